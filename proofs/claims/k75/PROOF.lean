import PyProof.Rows.All
import Wide.All
import OpenK.AllK
import Wide.FinOn
import HandS.Base
import HandS.Call
import HandS.Comp
import HandS.Deep
import HandS.Dict
import HandS.DictEq
import HandS.Ends
import HandS.Evl
import HandS.Exc
import HandS.ExcField
import HandS.ExcInit
import HandS.ExcIs
import HandS.ExcOwn
import HandS.ExcValue
import HandS.IsInst
import HandS.Iter
import HandS.List
import HandS.More
import HandS.RaiseMore
import HandS.Style
import HandS.TryOnly
import HandS.Walk
import HandS.Wide
import HandS.Words
import HandS.WordsExc
import KE.GoesEnum
import KE.KExcIs
import PyProof.CallFns
import PyProof.ReprLen
import PyProof.ReprRoads
import PySem.Challenge.RW_castforms_k75_errors_made
set_option Elab.async false
set_option linter.all false
set_option exponentiation.threshold 20000
set_option maxRecDepth 100000
set_option maxHeartbeats 8000000
namespace Cf
open PySem PySem.Spec PyProof.Rows L2

/-! ## defs that know that no repr is under way (guards) -/
structure FnG (P : Program) (w : World) (K : PySem.W.Frag) (mg : Str → Option Value) (base : Heap) (CX : CXT) (k : Nat) (f : Addr)
    (fd : FuncData) (ps : List Str) (sp : Sp) : Prop where
  len : ∀ vs H Q E, sp vs H Q E → vs.length = ps.length
  run : ∀ (A : Around) (outer : List Env) (s : Shared) (H : Hp) (args : Args) (us : List Value) (vs : List V) (Q : VK) (E : XK),
    A.guards = some [] → Room k A → Env0 P w K mg base A outer s H → BindsTo s fd args (ps.zip us) → Vals vs us → sp vs H Q E →
    codeAny (model P w) A (.call (.ref f) args) (CR CX outer P w H s Q E) s
section
variable {P : Program} {w : World} {K : PySem.W.Frag} {mg : Str → Option Value} {base : Heap} {CX : CXT}
theorem FnG.of {k : Nat} {f : Addr} {fd : FuncData} {ps : List Str} {sp : Sp} (F : FnOk P w K mg base CX k f fd ps sp) : FnG P w K mg base CX k f fd ps sp :=
  ⟨F.len, fun A outer s H args us vs Q E _ => F.run A outer s H args us vs Q E⟩
theorem FnG.mono {j k : Nat} {f : Addr} {fd : FuncData} {ps : List Str} {sp : Sp} (F : FnG P w K mg base CX j f fd ps sp) (h : j ≤ k) : FnG P w K mg base CX k f fd ps sp :=
  ⟨F.len, fun A outer s H args us vs Q E hg hr => F.run A outer s H args us vs Q E hg (hr.mono h)⟩
theorem FnG.imp {k : Nat} {f : Addr} {fd : FuncData} {ps : List Str} {sp sp2 : Sp} (F : FnG P w K mg base CX k f fd ps sp)
    (h : ∀ vs H Q E, sp2 vs H Q E → sp vs H Q E) : FnG P w K mg base CX k f fd ps sp2 :=
  ⟨fun vs H Q E q => F.len vs H Q E (h _ _ _ _ q), fun A outer s H args us vs Q E hg hr he hb hv hs => F.run A outer s H args us vs Q E hg hr he hb hv (h _ _ _ _ hs)⟩
end

section
variable {X : Cx} {CX : CXT} {k : Nat} {f : Addr} {fd : FuncData} {ps ks : List Str} {sp : Sp} {dvs : List V} {ds : List Value} {E : XK} {x : Str}
  {p pos : Pos} {e : Expr} {es : List Expr} {kws : List Keyword} {t tk : TA} {g : List Value → List Value → List Value} {gV : List V → List V → List V}
  {pins : List (Addr × Obj)} {σ : L2.St} {H : Hp} {s : Shared} {Q : VK}
/-- how a call's result is handed on -/
theorem ends_call {r : Result} {s' : Shared} (I : Inv X pins σ H s) (hx : Passes CX X E) (hq : CR CX X.stack X.prog X.w H s Q E r s') :
    match r with | .ok (.ret u) => EP X pins σ Q u s' | .ok _ => False | .error er => X.xe er s' := by
  match r, hq with
  | .error er, hq => exact hx pins σ H s er s' I hq
  | .ok (.ret u), hq => exact I.after hq
theorem run_g {us : List Value} {vs : List V} (F : FnG X.prog X.w X.K X.mg X.base CX k f fd ps sp) (hG : X.A.guards = some []) (hr : Room k X.A)
    (hb : Binds X.K fd ps ds) (hd : Vals dvs ds) (hx : Passes CX X E) (I : Inv X pins σ H s) (rv : Vals vs us) (hs : sp (vs ++ dvs) H Q E) :
    wpAny (model X.prog X.w) X.A (call (.ref f) us) (EP X pins σ Q) X.xe s := by
  have rr : Vals (vs ++ dvs) (us ++ ds) := rv.append hd
  have el : (us ++ ds).length = ps.length := (rr.length).symm.trans (F.len _ _ _ _ hs)
  refine wpAny_call (codeAny_mono (F.run X.A X.stack s H ⟨us, []⟩ (us ++ ds) (vs ++ dvs) Q E hG hr I.env0 (hb s us I.kIn el) rr hs) fun r s' q => ?_)
  have q2 := ends_call I hx q
  revert q2
  match r with
  | .error er => exact id
  | .ok (.ret u) => exact id
  | .ok .next => exact False.elim
  | .ok .brk => exact False.elim
  | .ok .cont => exact False.elim
theorem pe_g (F : FnG X.prog X.w X.K X.mg X.base CX k f fd ps sp) (hG : X.A.guards = some []) (hr : Room k X.A) (hg : Gl X x) (hm : X.mg x = some (.ref f))
    (hk : PySem.W.keepIn X.K (.ref f) = true) (hb : Binds X.K fd ps ds) (hd : Vals dvs ds) (hx : Passes CX X E) (ha : PA X (e :: es) t)
    (hdb : (x == ("__debug__" : Str)) = false := by decide)
    (he : starEach (e :: es) X.env = (false, eval e X.env) :: starEach es X.env := by rfl)
    (hpl : (backTo pos (starEach es X.env)).any (·.1) = false := by rfl) : PE X (.Call (.Name x p) (e :: es) [] pos) (tCall sp dvs E t) := by
  constructor
  intro pins s σ H Q I h
  refine wpAny_Call_Name_kw (ld_glob I hg hm ?_ hdb)
  have step := thn (ha.run pos pins s σ H _ I h) (Q' := fun us s1 => X.K.In s1.heap ∧ wpAny (model X.prog X.w) X.A (call (.ref f) us) (EP X pins σ Q) X.xe s1) fun us s1 hh => by
    obtain ⟨vs, H1, I1, r, q⟩ := hh
    exact ⟨I1.kIn, run_g F hG hr hb hd hx I1 r q⟩
  exact PySem.W.callWith_K (h₀ := X.base) I.ok.mod.kin hk step he hpl
theorem pe_g0 (F : FnG X.prog X.w X.K X.mg X.base CX k f fd ps sp) (hG : X.A.guards = some []) (hr : Room k X.A) (hg : Gl X x) (hm : X.mg x = some (.ref f))
    (hk : PySem.W.keepIn X.K (.ref f) = true) (hb : Binds X.K fd ps ds) (hd : Vals dvs ds) (hx : Passes CX X E)
    (hdb : (x == ("__debug__" : Str)) = false := by decide) : PE X (.Call (.Name x p) [] [] pos) (tCall sp dvs E tNil) := by
  constructor
  intro pins s σ H Q I h
  refine wpAny_Call_Name_kw (ld_glob I hg hm ?_ hdb)
  exact PySem.W.callWith_K0 I.kIn hk (run_g (us := []) F hG hr hb hd hx I .nil h)
theorem run_gk {us ws : List Value} {vs zs : List V} (F : FnG X.prog X.w X.K X.mg X.base CX k f fd ps sp) (hG : X.A.guards = some []) (hr : Room k X.A)
    (hb : KBinds X.K fd ps ks g gV) (hx : Passes CX X E) (I : Inv X pins σ H s) (rv : Vals vs us) (rz : Vals zs ws) (hs : sp (gV vs zs) H Q E) :
    wpAny (model X.prog X.w) X.A (call (.ref f) us (ks.zip ws)) (EP X pins σ Q) X.xe s := by
  have rr := hb.rel rv rz
  have el : (g us ws).length = ps.length := (rr.length).symm.trans (F.len _ _ _ _ hs)
  refine wpAny_call (codeAny_mono (F.run X.A X.stack s H ⟨us, ks.zip ws⟩ (g us ws) (gV vs zs) Q E hG hr I.env0 (hb.to s us ws I.kIn el) rr hs) fun r s' q => ?_)
  have q2 := ends_call I hx q
  revert q2
  match r with
  | .error er => exact id
  | .ok (.ret u) => exact id
  | .ok .next => exact False.elim
  | .ok .brk => exact False.elim
  | .ok .cont => exact False.elim
end
end Cf

namespace Cf
open PySem PySem.Spec PyProof.Rows L2

section
variable {X : Cx} {CX : CXT} {k n : Nat} {f : Addr} {fd : FuncData} {ps ks : List Str} {sp : Sp} {E : XK} {x : Str} {p pos : Pos} {e : Expr} {es : List Expr}
  {kws : List Keyword} {t tk : TA} {g : List Value → List Value → List Value} {gV : List V → List V → List V}
/-- keywords alone: a call whose arguments all are named; g orders them -/
def tKw (m : Nat) (sp : Sp) (gV : List V → List V) (E : XK) (tk : TA) : TE := fun σ H Q => tk σ H fun zs H2 => zs.length = m ∧ sp (gV zs) H2 Q E
structure KwB (K : PySem.W.Frag) (fd : FuncData) (ps ks : List Str) (g : List Value → List Value) (gV : List V → List V) : Prop where
  to : ∀ (s : Shared) (ws : List Value), K.In s.heap → ws.length = ks.length → BindsTo s fd ⟨[], ks.zip ws⟩ (ps.zip (g ws))
  rel : ∀ {zs : List V} {ws : List Value}, zs.length = ks.length → Vals zs ws → Vals (gV zs) (g ws)
variable {g1 : List Value → List Value} {gV1 : List V → List V}
theorem pe_gkw (F : FnG X.prog X.w X.K X.mg X.base CX k f fd ps sp) (hG : X.A.guards = some []) (hr : Room k X.A) (hg : Gl X x) (hm : X.mg x = some (.ref f))
    (hk : PySem.W.keepIn X.K (.ref f) = true) (hb : KwB X.K fd ps ks g1 gV1) (hx : Passes CX X E) (hkw : PK X kws tk)
    (hall : (backToKw pos (keywordEach kws X.env)).all (·.1.isSome) = true := by rfl)
    (hks : (backToKw pos (keywordEach kws X.env)).filterMap (·.1) = ks := by rfl)
    (hdb : (x == ("__debug__" : Str)) = false := by decide)
    (hpl : ((backTo pos (starEach [] X.env)).any (·.1) || (backToKw pos (keywordEach kws X.env)).any (·.1.isNone)) = false := by rfl) :
    PE X (.Call (.Name x p) [] kws pos) (tKw ks.length sp gV1 E tk) := by
  constructor
  intro pins s σ H Q I h
  refine wpAny_Call_Name_kw (ld_glob I hg hm ?_ hdb)
  refine PySem.W.callWith_KW0 (h₀ := X.base) I.ok.mod.kin hk hall (thn (hkw.run pos pins s σ H _ I h) fun ws s2 hh => ?_) hpl
  obtain ⟨zs, H2, I2, rz, l2, q2⟩ := hh
  refine ⟨I2.kIn, ?_⟩
  rw [hks]
  have lw : ws.length = ks.length := rz.length.symm.trans l2
  have rr := hb.rel l2 rz
  refine wpAny_call (codeAny_mono (F.run X.A X.stack s2 H2 ⟨[], ks.zip ws⟩ (g1 ws) (gV1 zs) Q E hG hr I2.env0 (hb.to s2 ws I2.kIn lw) rr q2) fun r s' q => ?_)
  have q3 := ends_call I2 hx q
  revert q3
  match r with
  | .error er => exact id
  | .ok (.ret u) => exact id
  | .ok .next => exact False.elim
  | .ok .brk => exact False.elim
  | .ok .cont => exact False.elim
end

/-! ## repr of data -/
section
variable {X : Cx}
def rRepr (K : PySem.W.Frag) : List V → Hp → VK → Prop := fun xs H Q => ∃ (a : Addr) (d : PyData), xs = [.ref a] ∧ Dp K H (.ref a) d ∧ d.showable = true ∧ d.hasDict = false ∧
  d.shown.length ≤ sizeLine ∧ d.depth ≤ 60 ∧ Q (.str d.shown) H
theorem call_repr (hG : X.A.guards = some []) (hu : X.A.units + 64 < cLine) : CallR X (.builtin "repr") (rRepr X.K) := by
  intro pins s σ H xs us Q I r h
  obtain ⟨a, d, rfl, hd, hs, hn, hz, hp, q⟩ := h
  obtain ⟨u, rfl, rx⟩ := vals1 r
  obtain ⟨as, rd⟩ := Dp.reads I d _ u hd rx
  obtain rfl : u = Value.ref a := rx
  refine repr_of_reads' rd hs (fun z => by rw [hn] at z; cases z) hG (by omega) (fun b o e => e) (fun h' u tk kp => ?_) hz
  exact ⟨.str d.shown, H, I.kept kp, ⟨u, rfl⟩, q⟩
/-- a ** b of great numbers -/
def CPowW (i j : Int) : Prop := 0 ≤ j ∧ j ≤ 100 ∧ i.natAbs.log2 < 100000
theorem op_powW : OpR X (binaryOp .Pow) (rI CPowW fun i j => .int (i ^ j.toNat)) := opI fun i j _ _ _ _ _ hc q => by
  obtain ⟨h0, h1, h2⟩ := hc
  refine pow_int h0 ?_ q
  have hb : Builtin.Int.intBits i ≤ i.natAbs.log2 + 1 := by
    unfold Builtin.Int.intBits
    split <;> omega
  have h3 : (Builtin.Int.intBits i : Int) ≤ 100000 := by omega
  have h4 : (Builtin.Int.intBits i : Int) * j ≤ 100000 * 100 := Int.mul_le_mul h3 h1 h0 (by decide)
  have h5 : (100000 * 100 : Int) ≤ 2 ^ 27 := by decide
  omega
end

/-! ## enumerate of a tuple -/
theorem meets_enum_tup (v : Addr) (items : Array Value) :
    Meets (Builtin.«enumerate.__new__» ⟨[.type "enumerate", .ref v], []⟩) (fun _ R s => s.heap.IsTuple v items ∧
      R (.ok (.ret (.ref (s.heap.push { cls := .type "tuple_iterator", data := .fields #[.ref v, .int 0 0] }).objs.size)))
        { s with heap := (s.heap.push { cls := .type "tuple_iterator", data := .fields #[.ref v, .int 0 0] }).push { cls := .type "enumerate", data := .fields #[.none, .bool false, .ref s.heap.objs.size, rawInt 0, .none, .none] } }) :=
  .of_wp fun prog w A R s h => by
    obtain ⟨hp, gg, dd, tk, os⟩ := s
    obtain ⟨h1, h⟩ := h
    have hsub := sub_enumerate
    have q1 : ∀ {A2 : Around} {E2 : Value → Shared → Prop} {Q2 : Value → Shared → Prop}, Q2 (.ref hp.objs.size) ⟨hp.push { cls := .type "tuple_iterator", data := .fields #[.ref v, .int 0 0] }, gg, dd, tk, os⟩ →
        wpAny (model prog w) A2 (pyIter (.ref v)) Q2 E2 ⟨hp, gg, dd, tk, os⟩ := fun q => wpAny_pyIter_tuple (s := ⟨hp, gg, dd, tk, os⟩) h1 q
    wp_walk using q1
    refine wpAny_stack_any fun st => wpAny_pure ?_
    split
    · rename_i c _ _ _ _ _
      cases (c == Value.type "enumerate")
      · wp_walk using q1
        exact ⟨_, rfl, h⟩
      · wp_walk using q1
        exact ⟨_, rfl, h⟩
    · wp_walk using q1
      exact ⟨_, rfl, h⟩
theorem call_enum_tup {prog : Program} {w : World} {A : Around} {E : Value → Shared → Prop} {s : Shared} {l : Addr} {items : Array Value} {Q : Value → Shared → Prop} (hL : s.heap.IsTuple l items)
    (h : ∀ h', IsEnum h' (s.heap.objs.size + 1) s.heap.objs.size 0 .none → h'.IsTupleIter s.heap.objs.size l 0 → h'.objs.size = s.heap.objs.size + 2 →
      (∀ b o, s.heap.get? b = some o → h'.get? b = some o) → Q (.ref (s.heap.objs.size + 1)) { s with heap := h' }) :
    wpAny (model prog w) A (call (.type "enumerate") [.ref l]) Q E s := by
  refine callType_new F.called_enumerate (by decide) (F.typeCall_enumerate_1 _) (F.newCall_enumerate_1 _) (fun obj => F.args_object_init_2 obj _) F.entry_enumerate_new
    (meets_enum_tup l items) ⟨hL, ?_⟩
  have z1 : (s.heap.push { cls := .type "tuple_iterator", data := .fields #[.ref l, .int 0 0] }).objs.size = s.heap.objs.size + 1 := Heap.size_push ..
  show _ ∧ _
  rw [z1]
  have z2 : IsEnum ((s.heap.push { cls := .type "tuple_iterator", data := .fields #[.ref l, .int 0 0] }).push
      { cls := .type "enumerate", data := .fields #[.none, .bool false, .ref s.heap.objs.size, rawInt 0, .none, .none] }) (s.heap.objs.size + 1) s.heap.objs.size 0 .none := by
    have z3 := Heap.get?_push_size (s.heap.push { cls := .type "tuple_iterator", data := .fields #[.ref l, .int 0 0] })
      (o := { cls := .type "enumerate", data := .fields #[.none, .bool false, .ref s.heap.objs.size, rawInt 0, .none, .none] }) rfl
    rw [z1] at z3
    exact z3
  refine ⟨⟨_, z2, rfl⟩, h _ z2 ⟨_, Heap.get?_push_of_some _ (Heap.get?_push_size _ rfl), rfl, rfl⟩ ?_ fun b o q => Heap.get?_push_of_some _ (Heap.get?_push_of_some _ q)⟩
  rw [Heap.size_push, z1]
end Cf

namespace Cf
open PySem PySem.Spec PyProof.Rows L2

/-- what enumerate of the tuple at a gives: each item in a new pair -/
def IteT (K : PySem.W.Frag) (a : Addr) : It :=
  ⟨fun i H => ∃ (xs : List V) (x : V), SqT K H a xs ∧ xs[i]? = some x,
    fun i H v H' => ∃ T x, v = .ref T ∧ H T = none ∧ H' = upd H T (.tup [.int (i : Nat), x]) ∧ ∀ xs, SqT K H a xs → xs[i]? = some x,
    fun i H => ∃ xs : List V, SqT K H a xs ∧ xs.length = i⟩
theorem turn_enumT {P : Program} {w : World} {K : PySem.W.Frag} {elts : List Expr} {kk : Nat} {tpos : Pos} (a e it : Addr) :
    Turn P w K (.Tuple elts kk tpos) (IteT K a) [e, it] e (fun i h => (∃ old, IsEnum h e it ((i : Nat) : Int) old) ∧ h.IsTupleIter it a i ∧ e ≠ it ∧ a ≠ it ∧ a ≠ e) where
  mem := by simp
  obj := fun i h st b hb => by
    obtain ⟨⟨old, he⟩, ⟨o, ho, hc, hd⟩, _⟩ := st
    have e' : b = e ∨ b = it := by simpa using hb
    rcases e' with z | z
    · rw [z]
      exact ⟨_, he, fun v q => nomatch q⟩
    · rw [z]
      exact ⟨o, ho, fun v q => by rw [hd] at q; cases q⟩
  keep := fun i h h' st kp => by
    obtain ⟨⟨old, he⟩, hi, hne⟩ := st
    exact ⟨⟨old, kp e (by simp) _ he⟩, hi.at fun o q => kp it (by simp) o q, hne⟩
  item := by
    intro X hP hw hK hc i pins s σ H E I hf st hg
    subst hP hw hK
    obtain ⟨⟨old, he⟩, hit, hne, hai, hae⟩ := st
    obtain ⟨xs, x, hq, hx⟩ := hg
    obtain ⟨its, rv, p, hz⟩ := I.tuple hq
    obtain ⟨u, hu, ru⟩ := rv.get hx
    have hel : e < s.heap.objs.size := Heap.lt_size he
    have hil : it < s.heap.objs.size := by
      obtain ⟨_, q, _⟩ := hit
      exact Heap.lt_size q
    have hlt : i < its.toArray.size := by
      have := (List.getElem?_eq_some_iff.mp hu).1
      simpa using this
    refine wpAny_pyNext_enum_itemD (Draws.tuple (prog := X.prog) (w := X.w) (A := X.A.in1) (I.ok.hd hc) it a hai its.toArray) he ⟨hit, p⟩ hlt hne (by
      intro z
      rcases List.mem_cons.mp z with z | z
      · exact hne z
      · exact hae (List.mem_singleton.mp z).symm) fun y h' tk hy ho hst hT hsz hk => ?_
    have ey : y = u := by
      have hy2 : its[i]? = some y := by simpa using hy
      exact Option.some.inj (hy2.symm.trans hu)
    subst ey
    refine ⟨_, rfl, wpAny_letOwnedTupleGo_enum (s := { s with heap := h', toks := tk + 1 }) ho fun h'' he' sb => ?_⟩
    have hT2 : h''.get? s.heap.objs.size = some { cls := .type "tuple", data := .seq #[.int i tk, y] } := (sb.2 _ (Nat.ne_of_gt hel)).trans hT
    have new : ObjOk X.prog X.w (upd H s.heap.objs.size (.tup [.int (i : Nat), x])) h'' s.heap.objs.size (.tup [.int (i : Nat), x]) :=
      ⟨by show 2 ≤ sizeLine; decide, [.int i tk, y], .cons ⟨_, rfl⟩ (.cons ru .nil), ⟨_, hT2, rfl, _, rfl⟩⟩
    have I1 : Inv X pins σ (upd H s.heap.objs.size (.tup [.int (i : Nat), x])) { s with heap := h'', toks := tk + 1 } :=
      I.turnedNew (ch := [e, it]) (fun b ob hb q => (sb.2 b (fun z => hb (by simp [z]))).trans (hk b ob (fun z => hb (by simp [z])) (fun z => hb (by simp [z])) q)) hf (Nat.le_refl _) new
    refine ⟨.ref s.heap.objs.size, _, I1, rfl, ⟨_, x, rfl, I.hok.fresh (Nat.le_refl _), rfl, fun ys hy => ?_⟩, ⟨⟨y, ?_⟩, hst.1.at fun o q => (sb.2 it (Ne.symm hne)).trans q, hne, hai, hae⟩, fun b hb => ?_⟩
    · rw [I.tuple_inj hy hq]
      exact hx
    · have e1 : ((i + 1 : Nat) : Int) = (i : Int) + 1 := by omega
      rw [e1]
      simpa using he'
    · have hb' : b < s.heap.objs.size := by
        have e' : b = e ∨ b = it := by simpa using hb
        rcases e' with z | z
        · rw [z]; exact hel
        · rw [z]; exact hil
      rw [upd_ne (Nat.ne_of_lt hb')]
      exact (hf b hb).1
  done := by
    intro X hP hw hK hc i pins s σ H E I hf st hg
    subst hP hw hK
    obtain ⟨⟨old, he⟩, hit, hne, hai, hae⟩ := st
    obtain ⟨xs, hq, hx⟩ := hg
    obtain ⟨its, rv, p, hz⟩ := I.tuple hq
    obtain ⟨f0, f1, f2, f3, f4, f5⟩ := hf it (by simp)
    have hl := rv.length
    have hn : its.toArray.size = i := by
      rw [List.size_toArray]
      omega
    subst hn
    refine wpAny_pyNext_enum_endD (Draws.tuple (prog := X.prog) (w := X.w) (A := X.A.in1) (I.ok.hd hc) it a hai its.toArray) he ⟨hit, p⟩ fun h' eb => ?_
    exact ⟨rfl, I.turned (t' := s.toks) (fun b o hb q => eb b o hb q) f0 f1 f3 f4 f5⟩
  self := fun A i s Q E st h => by
    obtain ⟨⟨_, he⟩, _⟩ := st
    exact wpAny_pyIter_enum he h
def iEnumT (K : PySem.W.Frag) (ta : TA) : TI := fun σ H R => ta σ H fun vs H1 => ∃ a xs, vs = [.ref a] ∧ SqT K H1 a xs ∧ R (IteT K a) H1
theorem pi_enumT {X : Cx} {e : Expr} {ta : TA} {p pos tpos : Pos} {elts : List Expr} {kk : Nat} (hg : Gl X "enumerate") (hm : X.mg "enumerate" = none) (ha : PA X [e] ta)
    (hs : starEach [e] X.env = [(false, eval e X.env)] := by rfl) : PI X (.Tuple elts kk tpos) (.Call (.Name "enumerate" p) [e] [] pos) (iEnumT X.K ta) := by
  constructor
  intro pins s σ H R I h
  refine Call_ (ld_blt I hg hm boot_enumerate (PyProof.Rows.callWith_type1 (thn (ha.run pos pins s σ H _ I h) fun us s1 hh => ?_) hs rfl))
  obtain ⟨vs, H1, I1, r1, a, xs, ex, hq, q⟩ := hh
  subst ex
  cases r1 with
  | cons r rr =>
    cases rr
    cases r
    obtain ⟨its, rv, pt, hz⟩ := I1.tuple hq
    have ha1 : a < s1.heap.objs.size := pt.lt
    refine call_enum_tup pt fun h' he hit hsz hk => wpAny_pyIter_enum he ?_
    have I2 : Inv X pins σ H1 { s1 with heap := h' } := I1.kept (t' := s1.toks) hk
    refine ⟨s1.heap.objs.size + 1, [s1.heap.objs.size + 1, s1.heap.objs.size], _, _, H1, rfl, I2, turn_enumT a (s1.heap.objs.size + 1) s1.heap.objs.size,
      ⟨⟨.none, he⟩, hit, Nat.succ_ne_self _, Nat.ne_of_lt ha1, Nat.ne_of_lt (Nat.lt_succ_of_lt ha1)⟩, fun b hb => ?_, q⟩
    have e' : b = s1.heap.objs.size + 1 ∨ b = s1.heap.objs.size := by simpa using hb
    have hle : s1.heap.objs.size ≤ b := by
      rcases e' with z | z
      · rw [z]
        exact Nat.le_add_right _ _
      · rw [z]
        exact Nat.le_refl _
    exact I1.fpOk hle (I1.hok.fresh hle)

/-! ## a def's body keeps its promise, no repr under way -/
theorem fng_of {CX : CXT} {P : Program} {w : World} {K : PySem.W.Frag} {mg : Str → Option Value} {base : Heap} {k : Nat} {f : Addr} {name qual : Str} {params : Arguments} {body : List Stmt} {scope : Scope}
    {dV kV doc pm cdv ct oc : Value} {an od : Option Addr} {osl : Array (Option Value)} {N ps : List Str} {sp : Sp}
    (lk : K.lookup f = some ⟨oc, od, .func (PySem.W.fnOf name qual params body scope dV kV doc pm an cdv ct), osl⟩) (hcd : PySem.W.codeIn K cdv qual = true) (S : FnScope N ps scope)
    (len : ∀ vs H Q E, sp vs H Q E → vs.length = ps.length)
    (hbody : ∀ (A : Around) (outer : List Env) (s : Shared) (H : Hp) (vs : List V) (Q : VK) (E : XK), A.guards = some [] → Room k (A.deeper (envOfC qual scope s.heap.objs.size f cdv)) → sp vs H Q E →
      ∃ t, PSs (cxOf CX P w K mg base N qual scope f cdv A outer s H E) body t ∧ t { nx := fun _ H' => Q .non H', rt := Q } (start N vs) H) :
    FnG P w K mg base CX (k + 1) f (PySem.W.fnOf name qual params body scope dV kV doc pm an cdv ct) ps sp := by
  refine ⟨len, ?_⟩
  intro A outer s H args us vs Q E hG hr e0 hb rv hsp
  have kept : ∀ b o, base.get? b = some o → s.heap.get? b = some o := fun b o q => (e0.bs b o q).1
  have inK : K.In s.heap := e0.mod.kin.keeps kept
  have lim : s.heap.NoLimit := e0.mod.nolimit.keeps kept
  have kinds : ∀ y ∈ ps.zip us, scope.names.lookup y.1 = some .local ∨ (scope.names.lookup y.1 = some .cell ∧ ((cellsFrom (s.heap.objs.size + 1) scope.names []).lookup y.1).isSome = true) := by
    intro y hy
    have hp := (List.of_mem_zip (show (y.1, y.2) ∈ ps.zip us from hy)).1
    exact (S.par y.1 hp).imp id fun q => ⟨q, PySem.W.cellsFrom_some _ _ _ (.inl q)⟩
  refine codeAny_call_function hr.depth (inK _ _ lk) rfl S.co S.gen rfl (PySem.W.codeRec_of inK hcd) (hb _ _ _ _ ?_)
  refine wpAny_newFunctionEnv_cells S.kind kinds fun env henv s1 x => ?_
  subst henv
  obtain ⟨t, ht, hq⟩ := hbody A outer s H vs Q E hG (hr.deeper _) hsp
  have I : Inv (cxOf CX P w K mg base N qual scope f cdv A outer s H E) [] (start N vs) H s1 := inv_start S hr.hd e0 (len _ _ _ _ hsp) rv x
  refine ⟨lim.keeps x.toInCall.keep, codeAny_func (wpAny_mono (ht.run [] s1 (start N vs) H _ I hq) (fun fl s' hs => ?_) fun e s' hs => hs)⟩
  match fl, hs with
  | .ret u, ⟨v, σ', H', J, r, q⟩ => exact ⟨v, H', J.os, J.bare, J.base, J.hok, r, q⟩
  | .next, ⟨σ', H', J, q⟩ => exact ⟨V.non, H', J.os, J.bare, J.base, J.hok, (rfl : RelV .non Value.none), q⟩
  | .brk, ⟨_, _, _, q⟩ => exact False.elim q
  | .cont, ⟨_, _, _, q⟩ => exact False.elim q
section
variable {P : Program} {w : World} {K : PySem.W.Frag} {mg : Str → Option Value} {base : Heap}
theorem fun_okG {CX : CXT} {x qual : Str} {st : Stmt} {f : Addr} {fd : FuncData} {N ps : List Str} {k : Nat} {sp : Sp} (F : Fun K x qual st f fd) (S : FnScope N ps (defScope st)) (len : ∀ vs H Q E, sp vs H Q E → vs.length = ps.length)
    (hbody : ∀ (cdv : Value) (A : Around) (outer : List Env) (s : Shared) (H : Hp) (vs : List V) (Q : VK) (E : XK), A.guards = some [] → Room k (A.deeper (envOfC qual (defScope st) s.heap.objs.size f cdv)) → sp vs H Q E →
      ∃ t, PSs (cxOf CX P w K mg base N qual (defScope st) f cdv A outer s H E) (defBody st) t ∧ t { nx := fun _ H' => Q .non H', rt := Q } (start N vs) H) : FnG P w K mg base CX (k + 1) f fd ps sp := by
  obtain ⟨oc, od, kV, doc, pm, an, cdv, ct, osl, rfl, lk, hcd⟩ := F.ex
  exact fng_of lk hcd S len fun A outer s H vs Q E hG hr hsp => hbody cdv A outer s H vs Q E hG hr hsp
theorem fun_kw {x qual : Str} {st : Stmt} {f : Addr} {fd : FuncData} {ps ks : List Str} {g : List Value → List Value} {gV : List V → List V} (F : Fun K x qual st f fd)
    (h : ∀ (kV doc pm : Value) (an : Option Addr) (cdv ct : Value) (ws : List Value), ws.length = ks.length → bindArgs (PySem.W.fnOf x qual (defArgs st) (defBody st) (defScope st) .none kV doc pm an cdv ct) ⟨[], ks.zip ws⟩ = pure (ps.zip (g ws)))
    (rel : ∀ {zs : List V} {ws : List Value}, zs.length = ks.length → Vals zs ws → Vals (gV zs) (g ws)) : KwB K fd ps ks g gV := by
  obtain ⟨oc, od, kV, doc, pm, an, cdv, ct, osl, rfl, lk, hcd⟩ := F.ex
  exact ⟨fun s ws _ hl => .of_eq (h kV doc pm an cdv ct ws hl), rel⟩
end
end Cf

namespace Cf
open PySem PySem.Spec PyProof.Rows L2

/-- from an abstract heap in which nothing but the script may be tracked -/
theorem lawG_core {P : Program} {w : World} {K : PySem.W.Frag} {mg mb : Str → Option Value} {CX : CXT} {k : Nat} {fa a : Addr} {fd : FuncData} {x : Str} {sp : Sp} {s1 : Shared} {vs : List Value}
    (KX : K.In s1.heap) (hns : s1.heap.Ns mainGlobals mg) (hb : s1.heap.Ns builtinsNs mb) (hbb : ∀ x : Str, x ≠ "__name__" → mb x = bootBuiltins x) (hlim : s1.heap.NoLimit) (hg : s1.gens = #[])
    (ha : s1.heap.get? a = some { cls := .type "list", data := .seq vs.toArray }) (hr : Room k callerA)
    (F : ∀ base : Heap, K.In base → base.Ns mainGlobals mg → FnG P w K mg base CX k fa fd [x] sp) (hbind : ∀ (s : Shared) (u : Value), BindsTo s fd ⟨[u], []⟩ [(x, u)])
    (hCX : ∀ H e s', CX [] H s1 (fun _ _ _ => False) e s' → False) (H : Hp) (hO : Only H) (hok : HOk P w H s1.heap) (hA : ∀ b, H b ≠ none → b = a) (hK : H a ≠ none → K.lookup a = none)
    (hsp : sp [.ref a] H (fun v _ => v = .bl true) fun _ _ _ => False) :
    codeAny (model P w) callerA (.call (.ref fa) ⟨[.ref a], []⟩) (fun r s' => r = .ok (.ret (.bool true)) ∧ OldK s1.heap s'.heap ∧ s'.os = s1.os ∧ AllBare s'.gens) s1 := by
  have noDict : ∀ (b : Addr) (o : Obj) (es : Array DictEntry) (ep : Nat), s1.heap.get? b = some o → o.data = .dict es ep → H b = none := by
    intro b o es ep q1 q2
    by_cases hb0 : H b = none
    · exact hb0
    · have e1 := hA b hb0
      subst e1
      rw [ha] at q1
      cases q1
      cases q2
  have ns2 : ∀ (b : Addr) (m : Str → Option Value), s1.heap.Ns b m → (hidT s1.heap H).Ns b m := by
    intro b m hm
    obtain ⟨o, es, ep, q1, q2, q3⟩ := hm
    exact ⟨o, es, ep, hidT_get q1 (noDict b o es ep q1 q2), q2, q3⟩
  have inK : K.In (hidT s1.heap H) := by
    intro b o q
    refine hidT_get (KX b o q) ?_
    by_cases hb0 : H b = none
    · exact hb0
    · have e1 := hA b hb0
      subst e1
      rw [hK hb0] at q
      cases q
  have hlim2 : (hidT s1.heap H).NoLimit := by
    obtain ⟨mc, q1, q2⟩ := hlim
    exact ⟨mc, ns2 _ _ q1, q2⟩
  have e0 : Env0 P w K mg (hidT s1.heap H) callerA [] s1 H :=
    ⟨rfl, ⟨inK, ns2 _ _ hns, ⟨mb, ns2 _ _ hb, hbb⟩, hlim2⟩, fun b o q => of_hidT q, Nat.le_of_eq (hidT_size _ _), trivial, fun b q => (List.not_mem_nil q).elim, hok, .of_eq hg⟩
  have run := (F _ inK (ns2 _ _ hns)).run callerA [] s1 H ⟨[.ref a], []⟩ [.ref a] [.ref a] _ _ rfl hr e0 (hbind s1 (.ref a)) (.cons rfl .nil) hsp
  refine codeAny_mono run fun r s' q => ?_
  match r, q with
  | .error e, q => exact (hCX H e s' q).elim
  | .ok (.ret u), q =>
    obtain ⟨v, H2, os, bare, un, hok2, rel, ev⟩ := q
    have ev2 : v = .bl true := ev
    subst ev2
    obtain rfl : u = Value.bool true := rel
    refine ⟨rfl, OldK.of_keep fun b o q1 => ?_, os, bare⟩
    rcases hO b with z | ⟨ob, xs, z⟩
    · exact un.keep b o q1 z (fun q2 => (List.not_mem_nil q2).elim) (fun q2 => (List.not_mem_nil q2).elim)
    · obtain ⟨g1, _⟩ := hok b _ z
      obtain ⟨g2, _⟩ := hok2 b _ (un.frzs b ob _ z)
      rw [q1] at g1
      cases g1
      exact g2

theorem lawG {P : Program} {w : World} {K : PySem.W.Frag} {mg mb : Str → Option Value} {CX : CXT} {k : Nat} {fa a : Addr} {fd : FuncData} {x : Str} {sp : Sp} {s1 : Shared} {vs : List Value} {ns : List Int}
    (KX : K.In s1.heap) (hns : s1.heap.Ns mainGlobals mg) (hb : s1.heap.Ns builtinsNs mb) (hbb : ∀ x : Str, x ≠ "__name__" → mb x = bootBuiltins x) (hlim : s1.heap.NoLimit) (hg : s1.gens = #[])
    (ha : s1.heap.get? a = some { cls := .type "list", data := .seq vs.toArray }) (hi : IntsAre vs ns) (hl : ns.length ≤ sizeLine) (hr : Room k callerA)
    (F : ∀ base : Heap, K.In base → base.Ns mainGlobals mg → FnG P w K mg base CX k fa fd [x] sp) (hbind : ∀ (s : Shared) (u : Value), BindsTo s fd ⟨[u], []⟩ [(x, u)])
    (hsp : ∀ H : Hp, Only H → SqL K H a (ns.map V.int) → sp [.ref a] H (fun v _ => v = .bl true) fun _ _ _ => False)
    (hCX : ∀ H e s', CX [] H s1 (fun _ _ _ => False) e s' → False) :
    codeAny (model P w) callerA (.call (.ref fa) ⟨[.ref a], []⟩) (fun r s' => r = .ok (.ret (.bool true)) ∧ OldK s1.heap s'.heap ∧ s'.os = s1.os ∧ AllBare s'.gens) s1 := by
  have vr := vals_ints hi
  have vl := hi.length
  by_cases hk : K.lookup a = none
  · have hat : ∀ u, (fun b => if b = a then some (HO.frz { cls := .type "list", data := .seq vs.toArray } (.lst (ns.map V.int))) else none) a = some u → u = HO.frz { cls := .type "list", data := .seq vs.toArray } (.lst (ns.map V.int)) := by
      intro u q
      have q2 := (if_pos rfl).symm.trans q
      cases q2
      rfl
    have hO : Only (fun b => if b = a then some (HO.frz { cls := .type "list", data := .seq vs.toArray } (.lst (ns.map V.int))) else none) := by
      intro b
      by_cases e : b = a
      · exact .inr ⟨_, _, if_pos e⟩
      · exact .inl (if_neg e)
    refine lawG_core KX hns hb hbb hlim hg ha hr F hbind hCX _ hO (fun b u q => ?_) (fun b q => ?_) (fun _ => hk) (hsp _ hO (.inl (.inr ⟨_, if_pos rfl⟩)))
    · by_cases e : b = a
      · subst e
        obtain rfl := hat u q
        exact ⟨ha, by rw [List.length_map]; exact hl, vs, _, vr, ha⟩
      · have q2 := (if_neg e).symm.trans q
        cases q2
    · by_cases e : b = a
      · exact e
      · exact absurd (if_neg e) q
  · obtain ⟨o, ho⟩ := Option.ne_none_iff_exists'.mp hk
    have q := KX a o ho
    rw [ha] at q
    cases q
    refine lawG_core KX hns hb hbb hlim hg ha hr F hbind hCX (fun _ => none) (fun _ => .inl rfl) (fun b u z => ?_) (fun b z => absurd rfl z) (fun z => absurd rfl z)
      (hsp _ (fun _ => .inl rfl) (.inr ⟨_, vs.toArray, _, ho, rfl, rfl, rfl, by rw [List.size_toArray, vl]; exact hl, by simpa using vr⟩))
    have z2 : (none : Option HO) = some u := z
    cases z2

theorem walkG {l : PySem.W.OpenLaw} {n k : Nat} {q : Program} {loose : List Str} {XP : (Str → Option Value) → Heap → Prop} {YP : World → Heap → Prop} {d : DefRec} {K : Params → PySem.W.Frag} {CX : World → CXT} {sp : World → Sp} {x : Str}
    (hn : l.most = some n) (hn2 : n ≤ sizeLine) (hdf : d.params.defaults = []) (hr : Room k callerA)
    (hY : ∀ (w : World) (h : Heap), YP w h → (K w.params).In h)
    (F : ∀ (w : World) (mg : Str → Option Value) (fa : Addr) (h : Heap), (K w.params).In h → h.Ns mainGlobals mg → mg d.name = some (.ref fa) →
      ∃ fd : FuncData, (∀ (s : Shared) (u : Value), BindsTo s fd ⟨[u], []⟩ [(x, u)]) ∧
        ∀ base : Heap, (K w.params).In base → base.Ns mainGlobals mg → FnG l.prog w (K w.params) mg base (CX w) k fa fd [x] (sp w))
    (hsp : ∀ (w : World) (H : Hp) (a : Addr) (ns : List Int), ns.length ≤ n → Only H → SqL (K w.params) H a (ns.map V.int) → sp w [.ref a] H (fun v _ => v = .bl true) fun _ _ _ => False)
    (hCX : ∀ (w : World) (H : Hp) (s : Shared) (e : Value) (s' : Shared), CX w [] H s (fun _ _ _ => False) e s' → False) :
    PySem.W.WalkO q loose XP YP l.row.toRowW d [] (fun f vs => PySem.call f vs) := by
  refine Att.attach_call hn hdf ?_
  intro w s0 s1 mg mb fa o pm cd doc a vs ns G Y ho hd hcd hmg hobj hints hlen hg
  have inK := hY w _ Y
  obtain ⟨fd, hb, hF⟩ := F w mg fa _ inK G.T.g hmg
  exact lawG inK G.T.g G.T.b G.T.builtins G.T.nolimit hg hobj hints (Nat.le_trans hlen hn2) hr hF hb (fun H hO hS => hsp w H a ns hlen hO hS) fun H e s' => hCX w H s1 e s'
end Cf

namespace Cf
open PySem PySem.Spec PyProof.Rows L2 Evl

/-! ## a def that callers know -/
structure Df (K : PySem.W.Frag) (mg : Str → Option Value) (x : Str) (st : Stmt) (ps : List Str) (f : Addr) (fd : FuncData) : Prop where
  F : Fun K x x st f fd
  g : mg x = some (.ref f)
  b : Binds K fd ps []
def Cl (P : Program) (w : World) (K : PySem.W.Frag) (mg : Str → Option Value) (base : Heap) (k : Nat) (x : Str) (ps : List Str) (sp : Sp) : Prop :=
  ∃ (f : Addr) (fd : FuncData), FnG P w K mg base CX0 k f fd ps sp ∧ mg x = some (.ref f) ∧ PySem.W.keepIn K (.ref f) = true ∧ Binds K fd ps []
section
variable {P : Program} {w : World} {K : PySem.W.Frag} {mg : Str → Option Value} {base : Heap}
theorem Cl.mk {k : Nat} {x : Str} {st : Stmt} {ps : List Str} {sp : Sp} {f : Addr} {fd : FuncData} (D : Df K mg x st ps f fd) (F : FnG P w K mg base CX0 k f fd ps sp) : Cl P w K mg base k x ps sp :=
  ⟨f, fd, F, D.g, D.F.kp, D.b⟩
theorem Cl.imp {k : Nat} {x : Str} {ps : List Str} {sp sp2 : Sp} (C : Cl P w K mg base k x ps sp) (h : ∀ vs H Q E, sp2 vs H Q E → sp vs H Q E) : Cl P w K mg base k x ps sp2 := by
  obtain ⟨f, fd, F, q⟩ := C
  exact ⟨f, fd, F.imp h, q⟩
/-- a body that nothing leaves -/
theorem df_ok {x : Str} {st : Stmt} {f : Addr} {fd : FuncData} {N ps : List Str} {k : Nat} {sp : Sp} (D : Df K mg x st ps f fd) (S : FnScope N ps (defScope st)) (len : ∀ vs H Q E, sp vs H Q E → vs.length = ps.length)
    (hbody : ∀ (cdv : Value) (A : Around) (outer : List Env) (s : Shared) (H : Hp) (vs : List V) (Q : VK) (E : XK), A.guards = some [] → Room k (A.deeper (envOfC x (defScope st) s.heap.objs.size f cdv)) → sp vs H Q E →
      ∃ t, PSs (cxOf CX0 P w K mg base N x (defScope st) f cdv A outer s H E).nox (defBody st) t ∧ t { nx := fun _ H' => Q .non H', rt := Q } (start N vs) H) : FnG P w K mg base CX0 (k + 1) f fd ps sp :=
  fun_okG D.F S len fun cdv A outer s H vs Q E hG hr hs => by
    obtain ⟨t, h, q⟩ := hbody cdv A outer s H vs Q E hG hr hs
    exact ⟨t, h.nox, q⟩
end
section
variable {X : Cx} {j k : Nat} {ps ks : List Str} {sp : Sp} {x : Str} {p pos : Pos} {e : Expr} {es : List Expr} {kws : List Keyword} {t tk : TA} {f : Addr} {fd : FuncData}
theorem pe_cl (C : Cl X.prog X.w X.K X.mg X.base j x ps sp) (hG : X.A.guards = some []) (hr : Room k X.A) (hg : Gl X x) (ha : PA X (e :: es) t) (hjk : j ≤ k := by decide)
    (hdb : (x == ("__debug__" : Str)) = false := by decide)
    (he : starEach (e :: es) X.env = (false, eval e X.env) :: starEach es X.env := by rfl)
    (hpl : (backTo pos (starEach es X.env)).any (·.1) = false := by rfl) : PE X (.Call (.Name x p) (e :: es) [] pos) (tCall sp [] E0 t) := by
  obtain ⟨f, fd, F, g, kp, b⟩ := C
  exact pe_g F hG (hr.mono hjk) hg g kp b .nil pass0 ha hdb he hpl
theorem pe_cl0 (C : Cl X.prog X.w X.K X.mg X.base j x ps sp) (hG : X.A.guards = some []) (hr : Room k X.A) (hg : Gl X x) (hjk : j ≤ k := by decide)
    (hdb : (x == ("__debug__" : Str)) = false := by decide) : PE X (.Call (.Name x p) [] [] pos) (tCall sp [] E0 tNil) := by
  obtain ⟨f, fd, F, g, kp, b⟩ := C
  exact pe_g0 F hG (hr.mono hjk) hg g kp b .nil pass0 hdb
/-- how a def takes its arguments by name -/
def KwC (K : PySem.W.Frag) (mg : Str → Option Value) (x : Str) (ps ks : List Str) (gV : List V → List V) : Prop :=
  ∀ (f : Addr) (fd : FuncData), mg x = some (.ref f) → (∃ g, KwB K fd ps ks g gV)
end
end Cf
namespace Cf
open PySem PySem.Spec PyProof.Rows L2 Evl
def Ck (P : Program) (w : World) (K : PySem.W.Frag) (mg : Str → Option Value) (base : Heap) (k : Nat) (x : Str) (ks : List Str) (gV : List V → List V) (sp : Sp) : Prop :=
  ∃ (f : Addr) (fd : FuncData) (ps : List Str) (g : List Value → List Value), FnG P w K mg base CX0 k f fd ps sp ∧ mg x = some (.ref f) ∧ PySem.W.keepIn K (.ref f) = true ∧ KwB K fd ps ks g gV
theorem Ck.mk {P : Program} {w : World} {K : PySem.W.Frag} {mg : Str → Option Value} {base : Heap} {k : Nat} {x : Str} {st : Stmt} {ps ks : List Str} {sp : Sp} {f : Addr} {fd : FuncData} {gV : List V → List V}
    (D : Df K mg x st ps f fd) (F : FnG P w K mg base CX0 k f fd ps sp) (g : List Value → List Value)
    (h : ∀ (kV doc pm : Value) (an : Option Addr) (cdv ct : Value) (ws : List Value), ws.length = ks.length → bindArgs (PySem.W.fnOf x x (defArgs st) (defBody st) (defScope st) .none kV doc pm an cdv ct) ⟨[], ks.zip ws⟩ = pure (ps.zip (g ws)))
    (rel : ∀ {zs : List V} {ws : List Value}, zs.length = ks.length → Vals zs ws → Vals (gV zs) (g ws)) : Ck P w K mg base k x ks gV sp :=
  ⟨f, fd, ps, g, F, D.g, D.F.kp, fun_kw D.F h rel⟩
section
variable {X : Cx} {j k : Nat} {ps ks : List Str} {sp : Sp} {x : Str} {p pos : Pos} {kws : List Keyword} {t tk : TA} {gV : List V → List V}
theorem pe_ck (C : Ck X.prog X.w X.K X.mg X.base j x ks gV sp) (hG : X.A.guards = some []) (hr : Room k X.A) (hg : Gl X x) (hkw : PK X kws tk) (hjk : j ≤ k := by decide)
    (hall : (backToKw pos (keywordEach kws X.env)).all (·.1.isSome) = true := by rfl)
    (hks : (backToKw pos (keywordEach kws X.env)).filterMap (·.1) = ks := by rfl)
    (hdb : (x == ("__debug__" : Str)) = false := by decide)
    (hpl : ((backTo pos (starEach [] X.env)).any (·.1) || (backToKw pos (keywordEach kws X.env)).any (·.1.isNone)) = false := by rfl) :
    PE X (.Call (.Name x p) [] kws pos) (tKw ks.length sp gV E0 tk) := by
  obtain ⟨f, fd, ps, g, F, gm, kp, b⟩ := C
  exact pe_gkw F hG (hr.mono hjk) hg gm kp b pass0 hkw hall hks hdb hpl
end
/-- a turn of a loop over enumerate(t) -/
theorem for_enumT {K : PySem.W.Frag} {a : Addr} {xs : List V} {g : TG} {tb : TS} {D : Ends} {σ : L2.St} {H : Hp} (Pv : Nat → L2.St → Hp → Prop) (h0 : Pv 0 σ H) (hl : ∀ i σ H, i ≤ xs.length → Pv i σ H → SqT K H a xs)
    (hq : ∀ i σ H T x, Pv i σ H → H T = none → Pv i σ (upd H T (.tup [.int (i : Nat), x])))
    (hs : ∀ i x T σ H, xs[i]? = some x → Pv i σ H → H T = some (.tup [.int (i : Nat), x]) → g (.ref T) σ H fun σ2 H2 => tb { D with nx := Pv (i + 1), ct := Pv (i + 1), bk := D.nx } σ2 H2) (hd : ∀ σ H, Pv xs.length σ H → D.nx σ H) :
    ∃ W : Nat → Nat → L2.St → Hp → Prop, (∃ m, W 0 m σ H) ∧ ∀ i m σ H, W i m σ H →
      ((IteT K a).stop i H ∧ D.nx σ H) ∨ ((IteT K a).go i H ∧ ∃ N : L2.St → Hp → Prop, (∀ σ' H', N σ' H' → ∃ m', m' < m ∧ W (i + 1) m' σ' H') ∧ ∀ x H', (IteT K a).yld i H x H' → g x σ H' fun σ2 H2 => tb { D with nx := N, ct := N, bk := D.nx } σ2 H2) := by
  refine ⟨fun i m σ H => m = xs.length - i ∧ i ≤ xs.length ∧ Pv i σ H, ⟨xs.length, by simp, Nat.zero_le _, h0⟩, ?_⟩
  intro i m σ H hw
  obtain ⟨rfl, hi, p⟩ := hw
  have q := hl i σ H hi p
  rcases Nat.lt_or_eq_of_le hi with hlt | he
  · refine .inr ⟨⟨xs, xs[i], q, List.getElem?_eq_getElem hlt⟩, Pv (i + 1), fun σ' H' p' => ⟨xs.length - (i + 1), by omega, rfl, hlt, p'⟩, fun v H' y => ?_⟩
    obtain ⟨T, x, rfl, hT, rfl, hx⟩ := y
    exact hs i x T σ _ (hx xs q) (hq i σ H T x p hT) upd_same
  · subst he
    exact .inl ⟨⟨xs, q, rfl⟩, hd σ H p⟩
end Cf

namespace Cf
open PySem PySem.Spec PyProof.Rows L2 Evl

/-! ## types and models, plainly -/
inductive Kd where
  | ch | sc | uc | sh | us | it | ui | lo | ul | wi | uw
  deriving DecidableEq
def Kd.s : Kd → Str
  | .ch => "char" | .sc => "schar" | .uc => "uchar" | .sh => "short" | .us => "ushort" | .it => "int" | .ui => "uint" | .lo => "long" | .ul => "ulong" | .wi => "wide" | .uw => "uwide"
def Kd.rk : Kd → Nat
  | .ch => 0 | .sc => 0 | .uc => 0 | .sh => 1 | .us => 1 | .it => 2 | .ui => 2 | .lo => 3 | .ul => 3 | .wi => 4 | .uw => 4
def Kd.all : List Kd := [.ch, .sc, .uc, .sh, .us, .it, .ui, .lo, .ul, .wi, .uw]
abbrev Kd.v (k : Kd) : V := .str k.s
structure Md where
  w0 : Nat
  w1 : Nat
  w2 : Nat
  w3 : Nat
  w4 : Nat
  u : Bool
structure Md.Ok (m : Md) : Prop where
  h0 : 2 ≤ m.w0
  h1 : m.w0 ≤ m.w1
  h2 : m.w1 ≤ m.w2
  h3 : m.w2 ≤ m.w3
  h4 : m.w3 ≤ m.w4
  h5 : m.w4 ≤ 128
def Md.w (m : Md) : Nat → Nat
  | 0 => m.w0 | 1 => m.w1 | 2 => m.w2 | 3 => m.w3 | _ => m.w4
def Md.ns (m : Md) : List Int := [m.w0, m.w1, m.w2, m.w3, m.w4]
abbrev Md.ws (m : Md) : List V := m.ns.map V.int
def plS (u : Bool) : Str := if u then "u" else "s"
def Md.b (m : Md) (k : Kd) : Nat := m.w k.rk
def Md.un (m : Md) : Kd → Bool
  | .ch => m.u | .uc => true | .us => true | .ui => true | .ul => true | .uw => true | _ => false
def Md.low (m : Md) (k : Kd) : Int := if m.un k then 0 else -(2 ^ (m.b k - 1))
def Md.high (m : Md) (k : Kd) : Int := if m.un k then 2 ^ m.b k - 1 else 2 ^ (m.b k - 1) - 1
theorem Md.Ok.bnd {m : Md} (h : m.Ok) (i : Nat) : 2 ≤ m.w i ∧ m.w i ≤ 128 := by
  obtain ⟨h0, h1, h2, h3, h4, h5⟩ := h
  match i with
  | 0 => simp only [Md.w]; omega
  | 1 => simp only [Md.w]; omega
  | 2 => simp only [Md.w]; omega
  | 3 => simp only [Md.w]; omega
  | n + 4 => simp only [Md.w]; omega
theorem Md.Ok.b {m : Md} (h : m.Ok) (k : Kd) : 2 ≤ m.b k ∧ m.b k ≤ 128 := h.bnd _
theorem Md.at_ {m : Md} {i : Nat} (h : i < 5) : m.ws[i]? = some (.int (m.w i)) := by
  match i, h with
  | 0, _ => rfl
  | 1, _ => rfl
  | 2, _ => rfl
  | 3, _ => rfl
  | 4, _ => rfl
theorem Kd.rk_lt (k : Kd) : k.rk < 5 := by cases k <;> decide

/-- a model stands at p -/
def AtM (K : PySem.W.Frag) (H : Hp) (p : Addr) (m : Md) : Prop := ∃ q, SqT K H p [.ref q, .str (plS m.u)] ∧ SqT K H q m.ws
theorem AtM.ex {K : PySem.W.Frag} {H H' : Hp} {p : Addr} {m : Md} (e : Ex H H') (h : AtM K H p m) : AtM K H' p m := by
  obtain ⟨q, a, b⟩ := h
  exact ⟨q, ex_t e a, ex_t e b⟩

/-! ## the module's constants -/
def CT (K : PySem.W.Frag) (mg : Str → Option Value) (x : Str) (xs : List V) : Prop := ∃ a, mg x = some (.ref a) ∧ ∀ H, SqT K H a xs
def CI (mg : Str → Option Value) (x : Str) (i : Int) : Prop := ∃ t, mg x = some (.int i t)
def CR5 (K : PySem.W.Frag) (w : World) (mg : Str → Option Value) : Prop := ∃ a, mg "RANKS" = some (.ref a) ∧ ∀ k : Kd, KDct K w a k.s (.int k.rk)
def vKINDS : List V := Kd.all.map Kd.v
def vSIGNED : List V := [Kd.sc.v, Kd.sh.v, Kd.it.v, Kd.lo.v, Kd.wi.v]
def vUNSIGNED : List V := [Kd.uc.v, Kd.us.v, Kd.ui.v, Kd.ul.v, Kd.uw.v]
def vPLAIN : List V := [.str "s", .str "u"]
section
variable {X : Cx} {pos : Pos}
theorem pe_ct {x : Str} {xs : List V} (hg : Gl X x) (c : CT X.K X.mg x xs) (hd : (x == ("__debug__" : Str)) = false := by decide) : PE X (.Name x pos) (fun σ H Q => ∀ a, SqT X.K H a xs → Q (.ref a) H) := by
  obtain ⟨a, e, q⟩ := c
  constructor
  intro pins s σ H Q I h
  exact (pe_glob (v := .ref a) hg e rfl hd).run pins s σ H Q I (h a (q H))
theorem pe_ci {x : Str} {i : Int} (hg : Gl X x) (c : CI X.mg x i) (hd : (x == ("__debug__" : Str)) = false := by decide) : PE X (.Name x pos) (tC (.int i)) := by
  obtain ⟨t, e⟩ := c
  exact pe_glob hg e ⟨t, rfl⟩ hd
end
/-! ## promises -/
/-- what a pure def gives -/
def PV (pre : List V → Hp → V → Prop) : Sp := fun vs H Q _ => ∃ v, pre vs H v ∧ ∀ H', Ex H H' → Q v H'
def PU (pre : List V → Hp → List V → Prop) : Sp := fun vs H Q _ => ∃ xs, pre vs H xs ∧ ∀ p H', H p = none → Ex H H' → H' p = some (.tup xs) → Q (.ref p) H'
def PL (pre : List V → Hp → List V → Prop) : Sp := fun vs H Q _ => ∃ xs, pre vs H xs ∧ ∀ p H', H p = none → Ex H H' → H' p = some (.lst xs) → Q (.ref p) H'
theorem PV.sp {pre : List V → Hp → V → Prop} {vs : List V} {H : Hp} {v : V} (h : ∀ H1, Ex H H1 → pre vs H1 v) : SpV (PV pre) vs H v := fun H1 e Q q E => ⟨v, h H1 e, q⟩
/-- a def of a model and a type -/
def preMK (K : PySem.W.Frag) (g : Md → Kd → V) : List V → Hp → V → Prop := fun vs H v => ∃ p m k, vs = [.ref p, k.v] ∧ AtM K H p m ∧ m.Ok ∧ v = g m k
def preMU (K : PySem.W.Frag) (g : Md → Kd → List V) : List V → Hp → List V → Prop := fun vs H v => ∃ p m k, vs = [.ref p, k.v] ∧ AtM K H p m ∧ m.Ok ∧ v = g m k
def preMKI (K : PySem.W.Frag) (g : Md → Kd → Int → V) : List V → Hp → V → Prop := fun vs H v => ∃ p m k i, vs = [.ref p, k.v, .int i] ∧ AtM K H p m ∧ m.Ok ∧ v = g m k i
def preMKK (K : PySem.W.Frag) (g : Md → Kd → Kd → V) : List V → Hp → V → Prop := fun vs H v => ∃ p m k l, vs = [.ref p, k.v, l.v] ∧ AtM K H p m ∧ m.Ok ∧ v = g m k l
def preM (K : PySem.W.Frag) : List V → Hp → V → Prop := fun vs H v => ∃ p m, vs = [.ref p] ∧ AtM K H p m ∧ m.Ok ∧ v = .non
def preW (K : PySem.W.Frag) : List V → Hp → V → Prop := fun vs H v => ∃ p m, vs = [.ref p] ∧ SqT K H p (Md.ws m) ∧ m.Ok ∧ v = .non
def preK : List V → Hp → V → Prop := fun vs H v => ∃ k : Kd, vs = [k.v] ∧ v = .non
theorem spMK {K : PySem.W.Frag} {g : Md → Kd → V} {H : Hp} {p : Addr} {m : Md} {k : Kd} (a : AtM K H p m) (o : m.Ok) : SpV (PV (preMK K g)) [.ref p, k.v] H (g m k) := PV.sp fun H1 e => ⟨p, m, k, rfl, a.ex e, o, rfl⟩
theorem spMKI {K : PySem.W.Frag} {g : Md → Kd → Int → V} {H : Hp} {p : Addr} {m : Md} {k : Kd} {i : Int} (a : AtM K H p m) (o : m.Ok) : SpV (PV (preMKI K g)) [.ref p, k.v, .int i] H (g m k i) := PV.sp fun H1 e => ⟨p, m, k, i, rfl, a.ex e, o, rfl⟩
theorem spMKK {K : PySem.W.Frag} {g : Md → Kd → Kd → V} {H : Hp} {p : Addr} {m : Md} {k l : Kd} (a : AtM K H p m) (o : m.Ok) : SpV (PV (preMKK K g)) [.ref p, k.v, l.v] H (g m k l) := PV.sp fun H1 e => ⟨p, m, k, l, rfl, a.ex e, o, rfl⟩
theorem spM {K : PySem.W.Frag} {H : Hp} {p : Addr} {m : Md} (a : AtM K H p m) (o : m.Ok) : SpV (PV (preM K)) [.ref p] H .non := PV.sp fun H1 e => ⟨p, m, rfl, a.ex e, o, rfl⟩
theorem spW {K : PySem.W.Frag} {H : Hp} {p : Addr} {m : Md} (a : SqT K H p m.ws) (o : m.Ok) : SpV (PV (preW K)) [.ref p] H .non := PV.sp fun H1 e => ⟨p, m, rfl, ex_t e a, o, rfl⟩
theorem spK {H : Hp} {k : Kd} : SpV (PV preK) [k.v] H .non := PV.sp fun H1 e => ⟨k, rfl, rfl⟩
/-- a call's tuple -/
def SpU (sp : Sp) (vs : List V) (H : Hp) (xs : List V) : Prop := ∀ H1, Ex H H1 → ∀ Q : VK, (∀ p H2, H1 p = none → Ex H1 H2 → H2 p = some (.tup xs) → Q (.ref p) H2) → ∀ E : XK, sp vs H1 Q E
theorem spMU {K : PySem.W.Frag} {g : Md → Kd → List V} {H : Hp} {p : Addr} {m : Md} {k : Kd} (a : AtM K H p m) (o : m.Ok) : SpU (PU (preMU K g)) [.ref p, k.v] H (g m k) := fun H1 e Q q E => ⟨_, ⟨p, m, k, rfl, a.ex e, o, rfl⟩, q⟩
theorem eu_call {σ : L2.St} {H : Hp} {sp : Sp} {dvs vs xs : List V} {E : XK} {ta : TA} (h : EvA ta σ H vs) (hs : SpU sp (vs ++ dvs) H xs) : EvU (tCall sp dvs E ta) σ H xs := fun H1 e Q q =>
  h H1 e _ fun H2 e2 => hs H2 (e.trans e2) Q (fun p H3 hp e3 h3 => q p H3 (fresh_back e2 hp) (e2.trans e3) h3) E
theorem ev_ct {K : PySem.W.Frag} {σ : L2.St} {H : Hp} {xs : List V} {r : R2} {ta : TE} {x z : V} (ha : Ev ta σ H x) (hr : ∀ a H1, Ex H H1 → SqT K H1 a xs → RV r x (.ref a) H1 z) :
    Ev (tOp r ta (fun σ H Q => ∀ a, SqT K H a xs → Q (.ref a) H)) σ H z := fun H1 e Q q =>
  ha H1 e _ fun H2 e2 => fun a t => hr a H2 (e.trans e2) t H2 (Ex.refl H2) Q fun H3 e3 => q H3 (e2.trans e3)
theorem pre_len1 {pre : List V → Hp → V → Prop} {n : Nat} (h : ∀ vs H v, pre vs H v → vs.length = n) : ∀ vs H Q E, PV pre vs H Q E → vs.length = n := fun vs H Q E q => by
  obtain ⟨v, a, _⟩ := q
  exact h _ _ _ a
theorem pre_lenU {pre : List V → Hp → List V → Prop} {n : Nat} (h : ∀ vs H v, pre vs H v → vs.length = n) : ∀ vs H Q E, PU pre vs H Q E → vs.length = n := fun vs H Q E q => by
  obtain ⟨v, a, _⟩ := q
  exact h _ _ _ a
end Cf

namespace Cf
open PySem PySem.Spec PyProof.Rows L2 Evl

/-! ## the draws -/
/-- all but the object at r is as it was -/
def Bu (r : Addr) (H H' : Hp) : Prop := ∀ b o, b ≠ r → H b = some o → H' b = some o
theorem Bu.refl (r : Addr) (H : Hp) : Bu r H H := fun _ _ _ h => h
theorem Bu.trans {r : Addr} {H H1 H2 : Hp} (a : Bu r H H1) (b : Bu r H1 H2) : Bu r H H2 := fun c o n h => b c o n (a c o n h)
theorem Bu.of {r : Addr} {H H1 : Hp} (a : Ex H H1) : Bu r H H1 := fun c o _ h => a c o h
theorem Bu.upd {r : Addr} {H : Hp} {o : HO} : Bu r H (upd H r o) := fun c u n h => by rw [upd_ne n]; exact h
theorem Bu.l {K : PySem.W.Frag} {r a : Addr} {H H1 : Hp} {xs : List V} (e : Bu r H H1) (n : a ≠ r) (h : SqL K H a xs) : SqL K H1 a xs := by
  rcases h with (h | ⟨o, h⟩) | h
  · exact .inl (.inl (e _ _ n h))
  · exact .inl (.inr ⟨o, e _ _ n h⟩)
  · exact .inr h
def Rng (H : Hp) (r : Addr) (n : Nat) : Prop := ∃ d s c : Int, H r = some (.lst [.int d, .int s, .int c]) ∧ s.natAbs < 2 ^ 70 ∧ 0 ≤ c ∧ c ≤ n
theorem Rng.ex {H H' : Hp} {r : Addr} {n : Nat} (h : Rng H r n) (e : Ex H H') : Rng H' r n := by
  obtain ⟨d, s, c, a, b⟩ := h
  exact ⟨d, s, c, e _ _ a, b⟩
theorem Rng.le {H : Hp} {r : Addr} {n k : Nat} (h : Rng H r n) (l : n ≤ k) : Rng H r k := by
  obtain ⟨d, s, c, a, b1, b2, b3⟩ := h
  exact ⟨d, s, c, a, b1, b2, by omega⟩
/-- a tuple is no list: it stands elsewhere -/
theorem Rng.ne_tup {H : Hp} {r p : Addr} {n : Nat} {xs : List V} (h : Rng H r n) (t : H p = some (.tup xs)) : p ≠ r := by
  obtain ⟨d, s, c, a, _⟩ := h
  exact ne_of t a (fun z => by cases z)
theorem Bu.t {K : PySem.W.Frag} {r a : Addr} {n : Nat} {H H1 : Hp} {xs : List V} (e : Bu r H H1) (g : Rng H r n) (h : SqT K H a xs) : SqT K H1 a xs := by
  rcases h with (h | ⟨o, h⟩) | h
  · exact .inl (.inl (e _ _ (g.ne_tup h) h))
  · refine .inl (.inr ⟨o, e _ _ ?_ h⟩)
    obtain ⟨d, s, c, q, _⟩ := g
    exact ne_of h q (fun z => by cases z)
  · exact .inr h
theorem AtM.bu {K : PySem.W.Frag} {r p : Addr} {n : Nat} {H H1 : Hp} {m : Md} (e : Bu r H H1) (g : Rng H r n) (h : AtM K H p m) : AtM K H1 p m := by
  obtain ⟨q, a, b⟩ := h
  exact ⟨q, e.t g a, e.t g b⟩
def spDraw : Sp := fun vs H Q _ => ∃ r l n, vs = [.ref r, .int l] ∧ 0 < l ∧ l.natAbs.log2 < 9000 ∧ n < 2 ^ 60 ∧ Rng H r n ∧ ∀ H' v, Bu r H H' → Rng H' r (n + 1) → 0 ≤ v → v < l → Q (.int v) H'
def spRng (K : PySem.W.Frag) : Sp := fun vs H Q _ => ∃ (a : Addr) (ns : List Int), vs = [.ref a] ∧ SqL K H a (ns.map V.int) ∧ ns.length ≤ 63 ∧ ∀ r H', H r = none → Ex H H' → Rng H' r 0 → Q (.ref r) H'
theorem cut_mem {xs : List V} {lo hi : Option Int} {x : V} (h : x ∈ cutV xs lo hi) : x ∈ xs := by
  unfold cutV at h
  exact List.mem_of_mem_drop (List.mem_of_mem_take h)
theorem pow10_step (n : Nat) : (10 : Int) ^ (60 * (n + 1)) = 10 ^ (60 * n) * 10 ^ 60 := by
  rw [Nat.mul_succ, Int.pow_add]
theorem big10 : (10 : Nat) ^ 3780 ≤ 2 ^ 13000 := by decide +kernel
theorem pow10_bits {n : Nat} (h : n ≤ 63) {d : Int} (h0 : 0 ≤ d) (h1 : d < 10 ^ (60 * n)) : d.natAbs < 2 ^ 13000 := by
  have e1 : (10 : Nat) ^ (60 * n) ≤ 10 ^ 3780 := Nat.pow_le_pow_right (by decide) (by omega)
  have e2 : d.natAbs < 10 ^ (60 * n) := by
    have e3 : ((10 : Int) ^ (60 * n)) = ((10 ^ (60 * n) : Nat) : Int) := by
      rw [Int.natCast_pow]
      rfl
    rw [e3] at h1
    omega
  exact Nat.lt_of_lt_of_le e2 (Nat.le_trans e1 big10)
end Cf

namespace Cf
open PySem PySem.Spec PyProof.Rows L2 Evl

/-! ## repr of small data -/
mutual
def Sm : PyData → Prop
  | .none => True
  | .bool _ => True
  | .int i => i.natAbs < 2 ^ 140
  | .str x => x.cps.size ≤ 30 ∧ (x.cps.toList.all fun c => decide (c < 16 ^ 8)) = true
  | .list xs => SmAll xs
  | .tuple xs => SmAll xs
  | .dict _ => False
def SmAll : List PyData → Prop
  | [] => True
  | x :: xs => Sm x ∧ SmAll xs
end
mutual
def szD : PyData → Nat
  | .list xs => 1 + szAll xs
  | .tuple xs => 1 + szAll xs
  | _ => 1
def szAll : List PyData → Nat
  | [] => 0
  | x :: xs => szD x + szAll xs
end
theorem int_len {i : Int} (h : i.natAbs < 2 ^ 140) : (PyData.shown (.int i)).length ≤ 141 := by
  have h1 := int_text_length_le (a := i) (k := 140) (by decide) (PySem.Flt.log2_lt_of (by decide) h)
  simp only [PyData.shown]
  show (Str.ofString (toString i)).length ≤ 141
  have e : (Str.ofString (toString i)).length = (toString i).length := PySem.ofString_length _
  omega
mutual
theorem sm_all : ∀ d : PyData, Sm d → d.showable = true ∧ d.hasDict = false ∧ d.leavesShort 141 = true ∧ d.weight + 1 ≤ 142 * szD d
  | .none, _ => ⟨by simp only [PyData.showable], by simp only [PyData.hasDict], by simp only [PyData.leavesShort], by simp only [PyData.weight, szD]; omega⟩
  | .bool _, _ => ⟨by simp only [PyData.showable], by simp only [PyData.hasDict], by simp only [PyData.leavesShort], by simp only [PyData.weight, szD]; omega⟩
  | .int i, h => by
    have h1 : i.natAbs < 2 ^ 140 := h
    have h2 : i.natAbs.log2 < 140 := PySem.Flt.log2_lt_of (by decide) h1
    refine ⟨?_, by simp only [PyData.hasDict], ?_, ?_⟩
    · simp only [PyData.showable]
      exact decide_eq_true (by omega)
    · simp only [PyData.leavesShort]
      exact decide_eq_true (int_len h1)
    · simp only [PyData.weight, szD]
      split <;> omega
  | .str x, h => by
    have h1 : x.cps.size ≤ 30 ∧ (x.cps.toList.all fun c => decide (c < 16 ^ 8)) = true := h
    refine ⟨by simp only [PyData.showable], by simp only [PyData.hasDict], ?_, ?_⟩
    · simp only [PyData.leavesShort]
      exact h1.2
    · simp only [PyData.weight, szD]
      omega
  | .list xs, h => by
    obtain ⟨a, b, c, e⟩ := sm_alls xs h
    refine ⟨by simp only [PyData.showable]; exact a, by simp only [PyData.hasDict]; exact b, by simp only [PyData.leavesShort]; exact c, ?_⟩
    simp only [PyData.weight, szD]
    omega
  | .tuple xs, h => by
    obtain ⟨a, b, c, e⟩ := sm_alls xs h
    refine ⟨by simp only [PyData.showable]; exact a, by simp only [PyData.hasDict]; exact b, by simp only [PyData.leavesShort]; exact c, ?_⟩
    simp only [PyData.weight, szD]
    omega
  | .dict _, h => h.elim
theorem sm_alls : ∀ ds : List PyData, SmAll ds → PyData.showableAll ds = true ∧ PyData.hasDictAll ds = false ∧ PyData.leavesShortAll 141 ds = true ∧ PyData.weightAll ds ≤ 142 * szAll ds
  | [], _ => ⟨by simp only [PyData.showableAll], by simp only [PyData.hasDictAll], by simp only [PyData.leavesShortAll], by simp only [PyData.weightAll]; omega⟩
  | x :: xs, h => by
    obtain ⟨a1, b1, c1, e1⟩ := sm_all x h.1
    obtain ⟨a2, b2, c2, e2⟩ := sm_alls xs h.2
    refine ⟨by simp only [PyData.showableAll, a1, a2]; rfl, by simp only [PyData.hasDictAll, b1, b2]; rfl, by simp only [PyData.leavesShortAll, c1, c2]; rfl, ?_⟩
    simp only [PyData.weightAll, szAll]
    omega
end
theorem sm_len {d : PyData} (h : Sm d) (z : szD d ≤ 800) : d.shown.length ≤ sizeLine := by
  obtain ⟨_, _, c, e⟩ := sm_all d h
  have h1 := PyData.shown_le 141 (by decide) d c
  have h2 := sizeLine_eq
  omega
mutual
theorem dp_ex {K : PySem.W.Frag} {H H' : Hp} (e : Ex H H') : ∀ (d : PyData) (v : V), Dp K H v d → Dp K H' v d
  | .none, _, h => by
    cases h
    exact .non
  | .bool b, _, h => by
    cases h
    exact .bl b
  | .int i, _, h => by
    cases h
    exact .int i
  | .str x, _, h => by
    cases h
    exact .str x
  | .list ds, _, h => by
    cases h with
    | lst a b => exact .lst (ex_l e a) (dps_ex e ds _ b)
  | .tuple ds, _, h => by
    cases h with
    | tup a b => exact .tup (ex_t e a) (dps_ex e ds _ b)
  | .dict _, _, h => nomatch h
theorem dps_ex {K : PySem.W.Frag} {H H' : Hp} (e : Ex H H') : ∀ (ds : List PyData) (vs : List V), DpAll K H vs ds → DpAll K H' vs ds
  | [], _, h => by
    cases h
    exact .nil
  | x :: xs, _, h => by
    cases h with
    | cons a b => exact .cons (dp_ex e x _ a) (dps_ex e xs _ b)
end
section
variable {K : PySem.W.Frag} {σ : L2.St} {H : Hp} {ta : TE} {a : Addr} {d : PyData} {xs : List V}
theorem ev_repr (ha : Ev ta σ H (.ref a)) (hd : Dp K H (.ref a) d) (hs : Sm d) (hz : szD d ≤ 800) (hp : d.depth ≤ 60) : Ev (tCB (rRepr K) (tCons ta tNil)) σ H (.str d.shown) := fun H1 e Q q =>
  ha H1 e _ fun H2 e2 => ⟨a, d, rfl, dp_ex (e.trans e2) d _ hd, (sm_all d hs).1, (sm_all d hs).2.1, sm_len hs hz, hp, q H2 e2⟩
theorem ev_reprN (ha : EvL ta σ H xs) (hd : ∀ H1, Ex H H1 → DpAll K H1 xs (match d with | .list ds => ds | _ => [])) (hl : ∃ ds, d = .list ds) (hs : Sm d) (hz : szD d ≤ 800) (hp : d.depth ≤ 60) :
    Ev (tCB (rRepr K) (tCons ta tNil)) σ H (.str d.shown) := fun H1 e Q q =>
  ha H1 e _ fun p H2 _ e2 h2 => by
    obtain ⟨ds, rfl⟩ := hl
    exact ⟨p, .list ds, rfl, .lst (sq_of h2) (hd H2 (e.trans e2)), (sm_all _ hs).1, (sm_all _ hs).2.1, sm_len hs hz, hp, q H2 e2⟩
theorem dp_ints {H : Hp} : ∀ ns : List Int, DpAll K H (ns.map V.int) (ns.map PyData.int)
  | [] => .nil
  | n :: ns => .cons (.int n) (dp_ints ns)
theorem AtM.dp {p : Addr} {m : Md} (h : AtM K H p m) : Dp K H (.ref p) (.tuple [.tuple (m.ns.map PyData.int), .str (plS m.u)]) := by
  obtain ⟨q, a, b⟩ := h
  exact .tup a (.cons (.tup b (dp_ints _)) (.cons (.str _) .nil))
theorem Md.sm {m : Md} (h : m.Ok) : Sm (.tuple [.tuple (m.ns.map PyData.int), .str (plS m.u)]) := by
  obtain ⟨h0, h1, h2, h3, h4, h5⟩ := h
  have hs : Sm (.str (plS m.u)) := by
    cases m.u
    · exact ⟨by decide, by decide⟩
    · exact ⟨by decide, by decide⟩
  refine ⟨⟨?_, ?_, ?_, ?_, ?_, trivial⟩, hs, trivial⟩
  · show ((m.w0 : Nat) : Int).natAbs < 2 ^ 140
    omega
  · show ((m.w1 : Nat) : Int).natAbs < 2 ^ 140
    omega
  · show ((m.w2 : Nat) : Int).natAbs < 2 ^ 140
    omega
  · show ((m.w3 : Nat) : Int).natAbs < 2 ^ 140
    omega
  · show ((m.w4 : Nat) : Int).natAbs < 2 ^ 140
    omega
end
end Cf

namespace Cf
open PySem PySem.Spec PyProof.Rows L2 Evl
section
variable {K : PySem.W.Frag} {σ : L2.St} {H : Hp} {ta tb tc te : TE} {tr tk : TA} {x z : V} {xs zs : List V} {a b c : Int} {sp : Sp} {m : Nat} {gV : List V → List V} {E : XK}
theorem ev_kw (h : EvA tk σ H zs) (hl : zs.length = m) (hs : SpV sp (gV zs) H z) : Ev (tKw m sp gV E tk) σ H z := fun H1 e Q q =>
  h H1 e _ fun H2 e2 => ⟨hl, hs H2 (e.trans e2) Q (fun H3 e3 => q H3 (e2.trans e3)) E⟩
theorem eu_kw (h : EvA tk σ H zs) (hl : zs.length = m) (hs : SpU sp (gV zs) H xs) : EvU (tKw m sp gV E tk) σ H xs := fun H1 e Q q =>
  h H1 e _ fun H2 e2 => ⟨hl, hs H2 (e.trans e2) Q (fun p H3 hp e3 h3 => q p H3 (fresh_back e2 hp) (e2.trans e3) h3) E⟩
theorem ea_at {Q : List V → Hp → Prop} (h : Ev te σ H x) (k : ∀ H1, Ex H H1 → tr σ H1 fun xs H2 => Q (x :: xs) H2) : tCons te tr σ H Q := h H (Ex.refl H) _ k
theorem ea_atU {Q : List V → Hp → Prop} (h : EvU te σ H xs) (k : ∀ p H1, H p = none → Ex H H1 → H1 p = some (.tup xs) → tr σ H1 fun ys H2 => Q (.ref p :: ys) H2) : tCons te tr σ H Q := h H (Ex.refl H) _ k
theorem ea_atL {Q : List V → Hp → Prop} (h : EvL te σ H xs) (k : ∀ p H1, H p = none → Ex H H1 → H1 p = some (.lst xs) → tr σ H1 fun ys H2 => Q (.ref p :: ys) H2) : tCons te tr σ H Q := h H (Ex.refl H) _ k
theorem ev_chLe (ha : Ev ta σ H (.int a)) (hb : Ev tb σ H (.int b)) (hc : Ev tc σ H (.int c)) :
    Ev (tChain (rI0 fun i j => .bl (decide (i ≤ j))) (rI0 fun i j => .bl (decide (i ≤ j))) ta tb tc) σ H (.bl (decide (a ≤ b ∧ b ≤ c))) := fun H1 e Q q =>
  ha H1 e _ fun H2 e2 => hb H2 (e.trans e2) _ fun H3 e3 => ⟨a, b, rfl, rfl, _, rfl, by
    have e4 := (e.trans e2).trans e3
    by_cases h1 : a ≤ b
    · rw [decide_eq_true h1]
      refine iteT (hc H3 e4 _ fun H4 e5 => ⟨b, c, rfl, rfl, ?_⟩)
      have e6 : decide (b ≤ c) = decide (a ≤ b ∧ b ≤ c) := by
        by_cases h2 : b ≤ c
        · rw [decide_eq_true h2, decide_eq_true ⟨h1, h2⟩]
        · rw [decide_eq_false h2, decide_eq_false fun z => h2 z.2]
      show Q (.bl (decide (b ≤ c))) H4
      rw [e6]
      exact q H4 ((e2.trans e3).trans e5)
    · rw [decide_eq_false h1]
      refine iteF ?_
      have e6 : decide (a ≤ b ∧ b ≤ c) = false := decide_eq_false fun z => h1 z.1
      rw [e6] at q
      exact q H3 (e2.trans e3)⟩
theorem q_par {tz : TS} {D : Ends} {i j : Nat} {y : V} (ha : Ev ta σ H x) (hb : Ev tb σ H y) (k : ∀ H1, Ex H H1 → tz D ((σ.set i (some x)).set j (some y)) H1) : tSeq (tPar i j (tCons ta (tCons tb tNil))) tz D σ H :=
  ha H (Ex.refl H) _ fun H1 e1 => hb H1 e1 _ fun H2 e2 => ⟨x, y, rfl, k H2 (e1.trans e2)⟩
theorem q_raw {tz : TS} {D : Ends} {i : Nat} (h : te σ H fun x H1 => tz D (σ.set i (some x)) H1) : tSeq (tAsg te (gName i)) tz D σ H := h
theorem lst_raw {Q : VK} (h : tr σ H fun xs H1 => xs.length ≤ sizeLine ∧ ∀ p, H1 p = none → Q (.ref p) (upd H1 p (.lst xs))) : tLst tr σ H Q := h
theorem tup_raw {Q : VK} (h : tr σ H fun xs H1 => xs.length ≤ sizeLine ∧ ∀ p, H1 p = none → Q (.ref p) (upd H1 p (.tup xs))) : tTup tr σ H Q := h
theorem ev_reprL {ds : List PyData} (ha : EvL ta σ H xs) (hd : ∀ H1, Ex H H1 → DpAll K H1 xs ds) (hs : SmAll ds) (hz : szD (.list ds) ≤ 800) (hp : (PyData.list ds).depth ≤ 60) :
    Ev (tCB (rRepr K) (tCons ta tNil)) σ H (.str (PyData.shown (.list ds))) := fun H1 e Q q =>
  ha H1 e _ fun p H2 _ e2 h2 => ⟨p, .list ds, rfl, .lst (sq_of h2) (hd H2 (e.trans e2)), (sm_all (.list ds) hs).1, (sm_all (.list ds) hs).2.1, sm_len (d := .list ds) hs hz, hp, q H2 e2⟩
theorem q_newL {t u : TS} {D : Ends} {p : Addr} (n : H p = none) (k : ∀ H', Ex H H' → H' p = some (.lst xs) → tSeq t u D σ H') : tSeq t u D σ (upd H p (.lst xs)) := k _ (Ex.new n) upd_same
theorem q_newT {t u : TS} {D : Ends} {p : Addr} (n : H p = none) (k : ∀ H', Ex H H' → H' p = some (.tup xs) → tSeq t u D σ H') : tSeq t u D σ (upd H p (.tup xs)) := k _ (Ex.new n) upd_same
theorem op_raw {r : R2} {Q : VK} (h : ta σ H fun x H1 => tb σ H1 fun y H2 => r x y H2 Q) : tOp r ta tb σ H Q := h
theorem test_raw {Q : Bool → Hp → Prop} (h : te σ H fun x H' => ∃ k, x = .bl k ∧ Q k H') : tTest te σ H Q := h
theorem if_raw {t : TT} {u v : TS} {D : Ends} (h : t σ H fun b H1 => if b = true then u D σ H1 else v D σ H1) : tIfS t u v D σ H := h
theorem lc_go {g : TG} {tt : TT} {vs : List Nat} {Q : VK} (hl : EvL ta σ H xs) (Pv : Addr → Addr → Nat → Hp → Prop)
    (h0 : ∀ a D H1, H a = none → Ex H H1 → H1 a = some (.lst xs) → H1 D = none → Pv a D 0 (upd H1 D (.lst [])))
    (hk : ∀ a D i H', i ≤ xs.length → Pv a D i H' → SqL K H' a xs)
    (hs : ∀ a D i x H', xs[i]? = some x → Pv a D i H' → g x (wipe σ vs) H' fun σ2 H2 => wipe σ2 vs = wipe σ vs ∧ tt σ2 H2 fun b H3 =>
      if b = true then te σ2 H3 fun y H4 => ∃ acc, H4 D = some (.lst acc) ∧ acc.length < sizeLine ∧ Pv a D (i + 1) (upd H4 D (.lst (acc ++ [y]))) else Pv a D (i + 1) H3)
    (hd : ∀ a D H', Pv a D xs.length H' → Q (.ref D) H') : tLc (iList K ta) g tt te vs σ H Q :=
  hl H (Ex.refl H) _ fun a H1 n1 e1 h1 => ⟨a, rfl, ⟨xs, sq_of h1⟩, fun D nD => lc_list (Pv a D) (h0 a D H1 n1 e1 h1 nD) (hk a D) (hs a D) (hd a D)⟩
theorem ev_pair {d e : PyData} (h1 : Ev ta σ H (.str d.shown)) (h2 : Ev tb σ H (.str e.shown)) (h : d = e) : Ev (tOp rNe ta tb) σ H (.bl false) := by
  subst h
  refine ev_is (ev_op h1 h2 (rv_ne rfl)) ?_
  rw [decide_eq_true rfl]
  rfl
end
def gV2 : List V → List V
  | [a, b] => [b, a]
  | _ => []
def gU2 : List Value → List Value
  | [a, b] => [b, a]
  | _ => []
def gV3 : List V → List V
  | [a, b, c] => [c, b, a]
  | _ => []
def gU3 : List Value → List Value
  | [a, b, c] => [c, b, a]
  | _ => []
theorem g2_rel : ∀ {zs : List V} {ws : List Value}, zs.length = 2 → Vals zs ws → Vals (gV2 zs) (gU2 ws)
  | [_, _], [_, _], _, .cons a (.cons b .nil) => .cons b (.cons a .nil)
theorem g3_rel : ∀ {zs : List V} {ws : List Value}, zs.length = 3 → Vals zs ws → Vals (gV3 zs) (gU3 ws)
  | [_, _, _], [_, _, _], _, .cons a (.cons b (.cons c .nil)) => .cons c (.cons b (.cons a .nil))
end Cf

namespace Cf
open PySem PySem.Spec PyProof.Rows L2 Evl
theorem shl1 {b : Nat} {σ : L2.St} {H : Hp} (h : b ≤ 128) {ta tb : TE} (ha : Ev ta σ H (.int 1)) (hb : Ev tb σ H (.int (b : Int))) : Ev (tOp (rI CPow fun i j => .int (i * 2 ^ j.toNat)) ta tb) σ H (.int (2 ^ b)) := by
  refine ev_is (ev_op ha hb (rv_I ⟨by omega, by omega, by decide⟩)) ?_
  rw [Int.toNat_natCast, Int.one_mul]

theorem small_log {i : Int} {n : Nat} (hn : 0 < n) (h : i.natAbs < 2 ^ n) (h2 : n ≤ 90000) : CPowW i 3 := ⟨by decide, by decide, by
  have := PySem.Flt.log2_lt_of hn h
  omega⟩

def preNil (xs : List V) : List V → Hp → List V → Prop := fun vs H ys => vs = [] ∧ ys = xs
theorem PL.sp {pre : List V → Hp → List V → Prop} {vs xs : List V} {H : Hp} (h : ∀ H1, Ex H H1 → pre vs H1 xs) : SpL (PL pre) vs H xs := fun H1 e Q q E => ⟨xs, h H1 e, q⟩
def preKv (g : Kd → V) : List V → Hp → V → Prop := fun vs H v => ∃ k : Kd, vs = [k.v] ∧ v = g k
theorem spKv {g : Kd → V} {H : Hp} {k : Kd} : SpV (PV (preKv g)) [k.v] H (g k) := PV.sp fun H1 e => ⟨k, rfl, rfl⟩
def Kd.ix : Kd → Nat
  | .ch => 0 | .sc => 1 | .uc => 2 | .sh => 3 | .us => 4 | .it => 5 | .ui => 6 | .lo => 7 | .ul => 8 | .wi => 9 | .uw => 10
theorem kd_at : ∀ {m : Nat} {z : V}, vKINDS[m]? = some z → ∃ k : Kd, k.ix = m ∧ z = k.v
  | 0, _, h => ⟨.ch, rfl, (Option.some.inj h).symm⟩
  | 1, _, h => ⟨.sc, rfl, (Option.some.inj h).symm⟩
  | 2, _, h => ⟨.uc, rfl, (Option.some.inj h).symm⟩
  | 3, _, h => ⟨.sh, rfl, (Option.some.inj h).symm⟩
  | 4, _, h => ⟨.us, rfl, (Option.some.inj h).symm⟩
  | 5, _, h => ⟨.it, rfl, (Option.some.inj h).symm⟩
  | 6, _, h => ⟨.ui, rfl, (Option.some.inj h).symm⟩
  | 7, _, h => ⟨.lo, rfl, (Option.some.inj h).symm⟩
  | 8, _, h => ⟨.ul, rfl, (Option.some.inj h).symm⟩
  | 9, _, h => ⟨.wi, rfl, (Option.some.inj h).symm⟩
  | 10, _, h => ⟨.uw, rfl, (Option.some.inj h).symm⟩
  | _ + 11, _, h => nomatch h
theorem kd_eq (k l : Kd) : eqV k.v l.v = decide (k = l) := by cases k <;> cases l <;> rfl
/-- xs.index(k) in the list of all types -/
theorem ev_index {K : PySem.W.Frag} {σ : L2.St} {H : Hp} {ta tb : TE} {k : Kd} (ha : EvL ta σ H vKINDS) (hb : ∀ H1, Ex H H1 → Ev tb σ H1 k.v) : Ev (tBM K "list" (rIndex K) ta (tCons tb tNil)) σ H (.int (k.ix : Nat)) := fun H1 e Q q =>
  ha H1 e _ fun p H2 _ e2 h2 => ⟨.inl ⟨rfl, _, sq_of h2⟩, hb H2 (e.trans e2) H2 (Ex.refl H2) _ fun H3 e3 =>
    ⟨p, vKINDS, k.v, k.ix, k.v, rfl, rfl, sq_of (e3 _ _ h2), rfl, rfl, by cases k <;> rfl, by rw [kd_eq]; exact decide_eq_true rfl, fun m z hm hz => by
      obtain ⟨k2, e4, rfl⟩ := kd_at hz
      rw [kd_eq]
      refine decide_eq_false fun e5 => ?_
      subst e5
      omega, q H3 (e2.trans e3)⟩⟩

theorem draw_at {σ : L2.St} {H : Hp} {ta : TA} {r : Addr} {l : Int} {n : Nat} {E : XK} {Q : VK} (h : EvA ta σ H [.ref r, .int l]) (l0 : 0 < l) (l1 : l.natAbs.log2 < 9000) (hn : n < 2 ^ 60) (g : Rng H r n)
    (k : ∀ H' v, Bu r H H' → Rng H' r (n + 1) → 0 ≤ v → v < l → Q (.int v) H') : tCall spDraw [] E ta σ H Q :=
  h H (Ex.refl H) _ fun H1 e1 => ⟨r, l, n, rfl, l0, l1, hn, g.ex e1, fun H' v b g2 v0 v1 => k H' v ((Bu.of e1).trans b) g2 v0 v1⟩
theorem log_small {l : Int} (h : l.natAbs < 2 ^ 200) : l.natAbs.log2 < 9000 := by
  have := PySem.Flt.log2_lt_of (by decide : 0 < 200) h
  omega
/-- widths so far: they ascend from low, the last is at most here -/
def Asc : Int → List Int → Int → Prop
  | low, [], here => low ≤ here
  | low, x :: xs, here => low ≤ x ∧ Asc x xs here
theorem Asc.le : ∀ {low : Int} {xs : List Int} {here : Int}, Asc low xs here → low ≤ here
  | _, [], _, h => h
  | _, x :: xs, _, h => Int.le_trans h.1 (Asc.le h.2)
theorem Asc.add : ∀ {low : Int} {xs : List Int} {here h2 : Int}, Asc low xs here → here ≤ h2 → Asc low (xs ++ [h2]) h2
  | _, [], _, _, h, h' => ⟨Int.le_trans h h', Int.le_refl _⟩
  | _, x :: xs, _, _, h, h' => ⟨h.1, Asc.add h.2 h'⟩
def spScheme (K : PySem.W.Frag) : Sp := fun vs H Q _ => ∃ r low top n, vs = [.ref r, .int low, .int top] ∧ 2 ≤ low ∧ low ≤ top ∧ top ≤ 128 ∧ n < 2 ^ 50 ∧ Rng H r n ∧
  ∀ p H' m, Bu r H H' → Rng H' r (n + 20) → AtM K H' p m → m.Ok → low ≤ m.w0 → (m.w4 : Int) ≤ top → Q (.ref p) H'

theorem Md.small (m : Md) (h : m.Ok) (k : Kd) : (m.low k).natAbs < 2 ^ 140 ∧ (m.high k).natAbs < 2 ^ 140 := by
  obtain ⟨b0, b1⟩ := h.b k
  have key : ∀ n : Nat, n ≤ 128 → (2 : Int) ^ n ≤ 2 ^ 128 ∧ 1 ≤ (2 : Int) ^ n := fun n hn => by
    have e1 : ((2 : Int) ^ n) = ((2 ^ n : Nat) : Int) := by
      rw [Int.natCast_pow]
      rfl
    have e2 : (2 : Nat) ^ n ≤ 2 ^ 128 := Nat.pow_le_pow_right (by decide) hn
    have e3 : 1 ≤ (2 : Nat) ^ n := Nat.one_le_two_pow
    rw [e1]
    omega
  obtain ⟨k1, k2⟩ := key (m.b k) b1
  obtain ⟨k3, k4⟩ := key (m.b k - 1) (by omega)
  unfold Md.low Md.high
  split <;> omega

theorem pick2 {K : PySem.W.Frag} {σ : L2.St} {H : Hp} {r : Addr} {a b : Int} {n j : Nat} {E : XK} {Q : VK} (g : Rng H r n) (hn : n < 2 ^ 60) (hj : σ[j]? = some (some (.ref r))) (k : ∀ H' x, Bu r H H' → Rng H' r (n + 1) → (x = a ∨ x = b) → Q (.int x) H') :
    tOp (rIxL K) (tLst (tCons (tC (.int a)) (tCons (tC (.int b)) tNil))) (tCall spDraw [] E (tCons (tVar j) (tCons (tC (.int 2)) tNil))) σ H Q := by
  refine ⟨by show 2 ≤ sizeLine; decide, fun t nt => ?_⟩
  have e1 : Ex H (upd H t (.lst [.int a, .int b])) := Ex.new nt
  have htr : t ≠ r := by
    obtain ⟨d, s2, c, q, _⟩ := g
    exact fun z => by
      rw [z, q] at nt
      cases nt
  refine draw_at (l := 2) (n := n) (ea_cons (ev_var hj) (ea_cons ev_c ea_nil)) (by decide) (log_small (by decide)) hn (g.ex e1) fun H2 v b2 g2 v0 v1 => ?_
  have h2 : H2 t = some (.lst [.int a, .int b]) := b2 _ _ htr upd_same
  have hv : v = 0 ∨ v = 1 := by omega
  rcases hv with rfl | rfl
  · exact ⟨t, _, 0, _, rfl, rfl, sq_of h2, atI_nat (j := 0) rfl, k H2 a ((Bu.of e1).trans b2) g2 (.inl rfl)⟩
  · exact ⟨t, _, 1, _, rfl, rfl, sq_of h2, atI_nat (j := 1) rfl, k H2 b ((Bu.of e1).trans b2) g2 (.inr rfl)⟩
def spLaw (K : PySem.W.Frag) : Sp := fun vs H Q _ => ∃ (a : Addr) (ns : List Int), vs = [.ref a] ∧ SqL K H a (ns.map V.int) ∧ ns.length ≤ 63 ∧ ∀ H', Q (.bl true) H'
theorem rv_eqDT {K : PySem.W.Frag} {H : Hp} {p q : Addr} {d e : PyData} (hd : ∀ H1, Ex H H1 → Dp K H1 (.ref p) d) (he : ∀ H1, Ex H H1 → Dp K H1 (.ref q) e) (sd : SeqAt.shaped d = true) (se : SeqAt.shaped e = true) {b : Bool} (hb : PyData.eqv d e = b) :
    RV (rEqD K) (.ref p) (.ref q) H (.bl b) := fun H1 e1 Q q => ⟨d, e, hd H1 e1, he H1 e1, sd, se, by rw [hb]; exact q H1 (Ex.refl H1)⟩

end Cf

namespace Cf
open PySem PySem.Spec PyProof.Rows L2 Evl
/-! ## promotion, common types -/
def uKd : Nat → Kd
  | 0 => .uc | 1 => .us | 2 => .ui | 3 => .ul | _ => .uw
def sKd : Nat → Kd
  | 2 => .it | 3 => .lo | _ => .wi
def Md.prom (m : Md) (k : Kd) : Kd := if 2 ≤ k.rk then k else if m.un k = true ∧ m.b .it ≤ m.b k then .ui else .it
def Md.mix (m : Md) (u s : Kd) : Kd := if s.rk ≤ u.rk then u else if m.b u < m.b s then s else uKd s.rk
def Md.com2 (m : Md) (a b : Kd) : Kd := if m.un a = m.un b then (if b.rk ≤ a.rk then a else b) else if m.un a = true then m.mix a b else m.mix b a
def Md.com (m : Md) (k l : Kd) : Kd := m.com2 (m.prom k) (m.prom l)
/-- the six promoted types -/
def Kd.big (k : Kd) : Prop := k = .it ∨ k = .ui ∨ k = .lo ∨ k = .ul ∨ k = .wi ∨ k = .uw
theorem Md.prom_big (m : Md) (k : Kd) : (m.prom k).big := by
  unfold Md.prom
  by_cases h : 2 ≤ k.rk
  · rw [if_pos h]
    revert h
    unfold Kd.big
    cases k <;> decide
  · rw [if_neg h]
    by_cases h2 : m.un k = true ∧ m.b .it ≤ m.b k
    · rw [if_pos h2]
      exact .inr (.inl rfl)
    · rw [if_neg h2]
      exact .inl rfl
/-- a pure def's promise over a model at p and types -/
theorem ev_mk {K : PySem.W.Frag} {σ : L2.St} {H : Hp} {p : Addr} {m : Md} {k : Kd} {g : Md → Kd → V} {i j : Nat} (a : AtM K H p m) (o : m.Ok) (hi : σ[i]? = some (some (.ref p))) (hj : σ[j]? = some (some k.v)) :
    Ev (tCall (PV (preMK K g)) [] E0 (tCons (tVar i) (tCons (tVar j) tNil))) σ H (g m k) := ev_call (ea_cons (ev_var hi) (ea_cons (ev_var hj) ea_nil)) (spMK a o)
/-- RANKS[k] -/
def tRk (K : PySem.W.Frag) (w : World) (aR : Addr) (tk : TE) : TE := tOp (rIxD K w) (tC (.ref aR)) tk
theorem ev_rk {K : PySem.W.Frag} {w : World} {aR : Addr} (tR : ∀ k : Kd, KDct K w aR k.s (.int k.rk)) {σ : L2.St} {H : Hp} {tk : TE} {k : Kd} (h : Ev tk σ H k.v) : Ev (tOp (rIxD K w) (tC (.ref aR)) tk) σ H (.int (k.rk : Nat)) :=
  ev_op ev_c h fun H1 _ Q1 q1 => ⟨aR, k.s, _, rfl, rfl, tR k, q1 H1 (Ex.refl H1)⟩
theorem pick3 {K : PySem.W.Frag} {σ : L2.St} {H : Hp} {r : Addr} {a b c : Int} {n j : Nat} {E : XK} {Q : VK} (g : Rng H r n) (hn : n < 2 ^ 60) (hj : σ[j]? = some (some (.ref r))) (k : ∀ H' x, Bu r H H' → Rng H' r (n + 1) → (x = a ∨ x = b ∨ x = c) → Q (.int x) H') :
    tOp (rIxL K) (tLst (tCons (tC (.int a)) (tCons (tC (.int b)) (tCons (tC (.int c)) tNil)))) (tCall spDraw [] E (tCons (tVar j) (tCons (tC (.int 3)) tNil))) σ H Q := by
  refine ⟨by show 3 ≤ sizeLine; decide, fun t nt => ?_⟩
  have e1 : Ex H (upd H t (.lst [.int a, .int b, .int c])) := Ex.new nt
  have htr : t ≠ r := by
    obtain ⟨d, s2, c, q, _⟩ := g
    exact fun z => by
      rw [z, q] at nt
      cases nt
  refine draw_at (l := 3) (n := n) (ea_cons (ev_var hj) (ea_cons ev_c ea_nil)) (by decide) (log_small (by decide)) hn (g.ex e1) fun H2 v b2 g2 v0 v1 => ?_
  have h2 : H2 t = some (.lst [.int a, .int b, .int c]) := b2 _ _ htr upd_same
  have hv : v = 0 ∨ v = 1 ∨ v = 2 := by omega
  rcases hv with rfl | rfl | rfl
  · exact ⟨t, _, 0, _, rfl, rfl, sq_of h2, atI_nat (j := 0) rfl, k H2 a ((Bu.of e1).trans b2) g2 (.inl rfl)⟩
  · exact ⟨t, _, 1, _, rfl, rfl, sq_of h2, atI_nat (j := 1) rfl, k H2 b ((Bu.of e1).trans b2) g2 (.inr (.inl rfl))⟩
  · exact ⟨t, _, 2, _, rfl, rfl, sq_of h2, atI_nat (j := 2) rfl, k H2 c ((Bu.of e1).trans b2) g2 (.inr (.inr rfl))⟩
/-! ### the law's own way -/
def lawOf (r : Nat) (s : Bool) : Kd := if s = true then sKd r else uKd r
def Md.lawCom (m : Md) (a b : Kd) : Kd :=
  if (!m.un a) = (!m.un b) then lawOf (max a.rk b.rk) (!m.un a)
  else lawOf (max a.rk b.rk) (decide ((if (!(!m.un a)) = true then a else b).rk < max a.rk b.rk) && decide (m.w (if (!(!m.un a)) = true then a else b).rk < m.w (max a.rk b.rk)))
theorem Md.lawCom_eq (m : Md) {a b : Kd} (ha : a.big) (hb : b.big) : m.lawCom a b = m.com2 a b := by
  rcases ha with rfl | rfl | rfl | rfl | rfl | rfl <;> rcases hb with rfl | rfl | rfl | rfl | rfl | rfl <;>
    simp [Md.lawCom, Md.com2, Md.mix, Md.un, Kd.rk, lawOf, sKd, uKd, Md.b, Md.w]
theorem big_rk {k : Kd} (h : k.big) : 2 ≤ k.rk ∧ k.rk ≤ 4 := by
  rcases h with rfl | rfl | rfl | rfl | rfl | rfl <;> decide
def preOf : List V → Hp → V → Prop := fun vs H v => ∃ (r : Nat) (s : Bool), vs = [.int r, .bl s] ∧ 2 ≤ r ∧ r ≤ 4 ∧ v = (lawOf r s).v
theorem spOf {H : Hp} {r : Nat} {s : Bool} (h0 : 2 ≤ r) (h1 : r ≤ 4) : SpV (PV preOf) [.int r, .bl s] H (lawOf r s).v := PV.sp fun H1 e => ⟨r, s, rfl, h0, h1, rfl⟩
def preM1 (K : PySem.W.Frag) (v : V) : List V → Hp → V → Prop := fun vs H z => ∃ p m, vs = [.ref p] ∧ AtM K H p m ∧ m.Ok ∧ z = v
theorem spM1 {K : PySem.W.Frag} {H : Hp} {p : Addr} {m : Md} {v : V} (a : AtM K H p m) (o : m.Ok) : SpV (PV (preM1 K v)) [.ref p] H v := PV.sp fun H1 e => ⟨p, m, rfl, a.ex e, o, rfl⟩
/-- != of two new lists that hold the same -/
theorem ev_neL {K : PySem.W.Frag} {σ : L2.St} {H : Hp} {ta tb : TE} {xs ys : List V} {ds : List PyData} (ha : EvL ta σ H xs) (hb : EvL tb σ H ys) (hx : ∀ H1, Ex H H1 → DpAll K H1 xs ds) (hy : ∀ H1, Ex H H1 → DpAll K H1 ys ds)
    (hs : SeqAt.shaped (.list ds) = true) (he : PyData.eqv (.list ds) (.list ds) = true) : Ev (tOp (rNeD K) ta tb) σ H (.bl false) :=
  ev_opLL ha hb fun p q H1 hp hq e => fun H2 e2 Q k => ⟨.list ds, .list ds, .lst (sq_of (e2 _ _ hp)) (hx H2 (e.trans e2)), .lst (sq_of (e2 _ _ hq)) (hy H2 (e.trans e2)), hs, hs, by rw [he]; exact k H2 (Ex.refl H2)⟩
theorem ev_eqL {K : PySem.W.Frag} {σ : L2.St} {H : Hp} {ta tb : TE} {a : Addr} {ys : List V} {ds : List PyData} (ha : Ev ta σ H (.ref a)) (hb : EvL tb σ H ys) (hx : ∀ H1, Ex H H1 → Dp K H1 (.ref a) (.list ds)) (hy : ∀ H1, Ex H H1 → DpAll K H1 ys ds)
    (hs : SeqAt.shaped (.list ds) = true) (he : PyData.eqv (.list ds) (.list ds) = true) : Ev (tOp (rEqD K) ta tb) σ H (.bl true) :=
  ev_opL ha hb fun q H1 hq e => fun H2 e2 Q k => ⟨.list ds, .list ds, hx H2 (e.trans e2), .lst (sq_of (e2 _ _ hq)) (hy H2 (e.trans e2)), hs, hs, by rw [he]; exact k H2 (Ex.refl H2)⟩
theorem dp_kd {K : PySem.W.Frag} {H : Hp} : ∀ ks : List Kd, DpAll K H (ks.map Kd.v) (ks.map fun k => .str k.s)
  | [] => .nil
  | k :: ks => .cons (.str _) (dp_kd ks)
theorem kd_eqs : ∀ k : Kd, PyData.eqv (.str k.s) (.str k.s) = true := fun k => by cases k <;> rfl
theorem eqv_kd : ∀ ks : List Kd, PyData.eqvAll (ks.map fun k => .str k.s) (ks.map fun k => .str k.s) = true
  | [] => rfl
  | k :: ks => by
    show (PyData.eqv (.str k.s) (.str k.s) && PyData.eqvAll _ _) = true
    rw [kd_eqs k, eqv_kd ks]
    rfl
theorem Md.com_comm (m : Md) (k l : Kd) : m.com k l = m.com l k := by
  unfold Md.com
  have ha := m.prom_big k
  have hb := m.prom_big l
  generalize m.prom k = a at ha ⊢
  generalize m.prom l = b at hb ⊢
  rcases ha with rfl | rfl | rfl | rfl | rfl | rfl <;> rcases hb with rfl | rfl | rfl | rfl | rfl | rfl <;>
    simp [Md.com2, Md.mix, Md.un, Kd.rk]
/-- a list comprehension's or a loop's list of all types, made anew -/
theorem el_labels {σ : L2.St} {H : Hp} : EvL (tCall (PL (preNil vKINDS)) [] E0 tNil) σ H vKINDS := el_call ea_nil (PL.sp fun H7 e7 => ⟨rfl, rfl⟩)
def kdD (ks : List Kd) : List PyData := ks.map fun k => .str k.s
theorem kdl_lay : ∀ ks : List Kd, PyData.canLayAll0 (kdD ks) = true
  | [] => by simp [kdD, PyData.canLayAll0]
  | k :: ks => by
    have ih := kdl_lay ks
    have hk : PyData.strOk k.s = true := by cases k <;> decide +kernel
    unfold kdD at ih ⊢
    simp [PyData.canLayAll0, PyData.canLay0, ih, hk]
theorem kdl_depth : ∀ ks : List Kd, PyData.depthAll (kdD ks) ≤ 2
  | [] => by simp [kdD, PyData.depthAll]
  | k :: ks => by
    have ih := kdl_depth ks
    unfold kdD at ih ⊢
    simp only [List.map_cons, PyData.depthAll, PyData.depth]
    omega
theorem kdl_shaped (ks : List Kd) : SeqAt.shaped (.list (kdD ks)) = true := by
  have h1 := kdl_depth ks
  show (PyData.canLay0 (.list (kdD ks)) && decide (PyData.depth (.list (kdD ks)) ≤ 64)) = true
  rw [Bool.and_eq_true]
  refine ⟨by simp only [PyData.canLay0]; exact kdl_lay ks, decide_eq_true ?_⟩
  simp only [PyData.depth]
  omega
theorem kdl_eqv (ks : List Kd) : PyData.eqv (.list (kdD ks)) (.list (kdD ks)) = true := by
  simp only [PyData.eqv]
  exact eqv_kd ks
theorem ev_neK {K : PySem.W.Frag} {σ : L2.St} {H : Hp} {ta tb : TE} {xs ys : List V} (ks : List Kd) (ha : EvL ta σ H xs) (hb : EvL tb σ H ys) (hx : xs = ks.map Kd.v := by rfl) (hy : ys = ks.map Kd.v := by rfl) : Ev (tOp (rNeD K) ta tb) σ H (.bl false) := by
  subst hx hy
  exact ev_neL (ds := kdD ks) ha hb (fun _ _ => dp_kd ks) (fun _ _ => dp_kd ks) (kdl_shaped ks) (kdl_eqv ks)
theorem ev_eqK {K : PySem.W.Frag} {σ : L2.St} {H : Hp} {ta tb : TE} {a : Addr} {xs ys : List V} (ks : List Kd) (ha : Ev ta σ H (.ref a)) (hb : EvL tb σ H ys) (hl : SqL K H a xs) (hx : xs = ks.map Kd.v := by rfl) (hy : ys = ks.map Kd.v := by rfl) : Ev (tOp (rEqD K) ta tb) σ H (.bl true) := by
  subst hx hy
  exact ev_eqL (ds := kdD ks) ha hb (fun _ e => .lst (ex_l e hl) (dp_kd ks)) (fun _ _ => dp_kd ks) (kdl_shaped ks) (kdl_eqv ks)
end Cf

namespace Cf
open PySem PySem.Spec PyProof.Rows L2 Evl
/-! ## conversion -/
def Md.conv (m : Md) (k : Kd) (i : Int) : Int := (i - m.low k) % (m.high k - m.low k + 1) + m.low k
theorem p2 (n : Nat) : (0 : Int) < 2 ^ n := Int.pow_pos (by decide)
theorem p2s {n : Nat} (h : 1 ≤ n) : (2 : Int) ^ n = 2 * 2 ^ (n - 1) := by
  obtain ⟨k, rfl⟩ : ∃ k, n = k + 1 := ⟨n - 1, by omega⟩
  rw [Nat.add_sub_cancel, Int.pow_succ, Int.mul_comm]
theorem Md.span (m : Md) (h : m.Ok) (k : Kd) : m.high k - m.low k + 1 = 2 ^ m.b k := by
  obtain ⟨b0, _⟩ := h.b k
  have e := p2s (n := m.b k) (by omega)
  unfold Md.low Md.high
  split <;> omega
theorem Md.conv_in (m : Md) (h : m.Ok) (k : Kd) (i : Int) : m.low k ≤ m.conv k i ∧ m.conv k i ≤ m.high k := by
  have e := m.span h k
  have p := p2 (m.b k)
  unfold Md.conv
  have h0 := Int.emod_nonneg (i - m.low k) (show m.high k - m.low k + 1 ≠ 0 by omega)
  have h1 := Int.emod_lt_of_pos (i - m.low k) (show 0 < m.high k - m.low k + 1 by omega)
  omega
theorem Md.conv_mod (m : Md) (h : m.Ok) (k : Kd) (i : Int) : (m.conv k i - i) % 2 ^ m.b k = 0 := by
  have e := m.span h k
  unfold Md.conv
  rw [e]
  have h1 := Int.emod_add_mul_ediv (i - m.low k) (2 ^ m.b k)
  have h2 : (i - m.low k) % 2 ^ m.b k + m.low k - i = 2 ^ m.b k * (-((i - m.low k) / 2 ^ m.b k)) := by
    rw [Int.mul_neg]
    omega
  rw [h2]
  exact Int.mul_emod_right _ _
/-- the law's own way to say that an integer is held -/
theorem Md.held (m : Md) (h : m.Ok) (k : Kd) (i : Int) : (if (!m.un k) = true then decide (0 - 2 ^ m.b k ≤ 2 * i ∧ 2 * i < 2 ^ m.b k) else decide (0 ≤ i ∧ i < 2 ^ m.b k)) = decide (m.low k ≤ i ∧ i ≤ m.high k) := by
  obtain ⟨b0, _⟩ := h.b k
  have e := p2s (n := m.b k) (by omega)
  have key1 : (0 - 2 ^ m.b k ≤ 2 * i ∧ 2 * i < 2 ^ m.b k) ↔ (-(2 ^ (m.b k - 1)) ≤ i ∧ i ≤ 2 ^ (m.b k - 1) - 1) := by
    rw [e]
    generalize (2 : Int) ^ (m.b k - 1) = x
    omega
  have key2 : (0 ≤ i ∧ i < (2 : Int) ^ m.b k) ↔ (0 ≤ i ∧ i ≤ 2 ^ m.b k - 1) := by
    generalize (2 : Int) ^ m.b k = x
    omega
  unfold Md.low Md.high
  cases m.un k
  · exact decide_eq_decide.mpr key1
  · exact decide_eq_decide.mpr key2
theorem ev_chLeLt {σ : L2.St} {H : Hp} {ta tb tc : TE} {a b c : Int} (ha : Ev ta σ H (.int a)) (hb : Ev tb σ H (.int b)) (hc : Ev tc σ H (.int c)) :
    Ev (tChain (rI0 fun i j => .bl (decide (i ≤ j))) (rI0 fun i j => .bl (decide (i < j))) ta tb tc) σ H (.bl (decide (a ≤ b ∧ b < c))) := fun H1 e Q q =>
  ha H1 e _ fun H2 e2 => hb H2 (e.trans e2) _ fun H3 e3 => ⟨a, b, rfl, rfl, _, rfl, by
    have e4 := (e.trans e2).trans e3
    by_cases h1 : a ≤ b
    · rw [decide_eq_true h1]
      refine iteT (hc H3 e4 _ fun H4 e5 => ⟨b, c, rfl, rfl, ?_⟩)
      have e6 : decide (b < c) = decide (a ≤ b ∧ b < c) := by
        by_cases h2 : b < c
        · rw [decide_eq_true h2, decide_eq_true ⟨h1, h2⟩]
        · rw [decide_eq_false h2, decide_eq_false fun z => h2 z.2]
      show Q (.bl (decide (b < c))) H4
      rw [e6]
      exact q H4 ((e2.trans e3).trans e5)
    · rw [decide_eq_false h1]
      refine iteF ?_
      have e6 : decide (a ≤ b ∧ b < c) = false := decide_eq_false fun z => h1 z.1
      rw [e6] at q
      exact q H3 (e2.trans e3)⟩
theorem ev_isi {K : PySem.W.Frag} {σ : L2.St} {H : Hp} {ta : TE} {i : Int} {n : String} {b : Bool} (ha : Ev ta σ H (.int i)) (hb : PySem.W.kitOne K (.type "int") (.type n) = some b) :
    Ev (tCB (rIsi K) (tCons ta (tCons (tC (.ty n)) tNil))) σ H (.bl b) := ev_cb (ea_cons ha (ea_cons ev_c ea_nil)) fun H1 _ Q1 q1 => ⟨.int i, .ty n, .type "int", .type n, b, rfl, .ty n, .base (.int i), hb, q1 H1 (Ex.refl H1)⟩
theorem drop_raw {σ : L2.St} {H : Hp} {te : TE} {tz : TS} {D : Ends} (h : te σ H fun _ H1 => tz D σ H1) : tSeq (tDrop te) tz D σ H := h
theorem app_raw {K : PySem.W.Frag} {σ : L2.St} {H : Hp} {i : Nat} {l : Addr} {xs : List V} {tr : TA} {Q : VK} (hi : σ[i]? = some (some (.ref l))) (hl : H l = some (.lst xs)) (h : tr σ H fun ys H2 => rAppend (.ref l) ys H2 Q) : tBM K "list" rAppend (tVar i) tr σ H Q :=
  ⟨.ref l, hi, .inl ⟨rfl, xs, sq_of hl⟩, h⟩
def spRightN (K : PySem.W.Frag) (c : Nat) : Sp := fun vs H Q _ => ∃ r p k m n, vs = [.ref r, .ref p, Kd.v k] ∧ AtM K H p m ∧ m.Ok ∧ n < 2 ^ 50 ∧ Rng H r n ∧ ∀ H', Bu r H H' → Rng H' r (n + c) → Q (.bl true) H'
example {K : PySem.W.Frag} : PySem.W.kitOne K (.type "int") (.type "bool") = some false := kit_ty (by decide +kernel)
end Cf

namespace Cf
open PySem PySem.Spec PyProof.Rows L2 Evl
/-! ## conversions behind one another; what common types hold -/
theorem Md.conv_dvd (m : Md) (h : m.Ok) (k : Kd) (i : Int) : (2 : Int) ^ m.b k ∣ m.conv k i - i := Int.dvd_of_emod_eq_zero (m.conv_mod h k i)
theorem Md.conv_eq (m : Md) (h : m.Ok) (k : Kd) {i y : Int} (h0 : m.low k ≤ y) (h1 : y ≤ m.high k) (hd : (2 : Int) ^ m.b k ∣ y - i) : m.conv k i = y := by
  obtain ⟨c0, c1⟩ := m.conv_in h k i
  have e := m.span h k
  have p := p2 (m.b k)
  obtain ⟨q1, e1⟩ := m.conv_dvd h k i
  obtain ⟨q2, e2⟩ := hd
  have e3 : m.conv k i - y = 2 ^ m.b k * (q1 - q2) := by
    rw [Int.mul_sub]
    omega
  have hq : q1 - q2 = 0 := by
    by_cases z : q1 - q2 ≥ 1
    · have := Int.mul_le_mul_of_nonneg_left z (Int.le_of_lt p)
      omega
    · by_cases z2 : q1 - q2 ≤ -1
      · have := Int.mul_le_mul_of_nonneg_left z2 (Int.le_of_lt p)
        omega
      · omega
  rw [hq, Int.mul_zero] at e3
  omega
theorem Md.conv_conv (m : Md) (h : m.Ok) (k : Kd) (i : Int) : m.conv k (m.conv k i) = m.conv k i :=
  m.conv_eq h k (m.conv_in h k i).1 (m.conv_in h k i).2 ⟨0, by omega⟩
theorem Md.conv_held (m : Md) (h : m.Ok) (k : Kd) (i : Int) : (m.low k ≤ i ∧ i ≤ m.high k) ↔ m.conv k i = i := by
  constructor
  · intro z
    exact m.conv_eq h k z.1 z.2 ⟨0, by omega⟩
  · intro z
    have := m.conv_in h k i
    rw [z] at this
    exact this
theorem Md.conv_less (m : Md) (h : m.Ok) {k l : Kd} (hb : m.b l ≤ m.b k) (i : Int) : m.conv l (m.conv k i) = m.conv l i := by
  refine m.conv_eq h l (m.conv_in h l i).1 (m.conv_in h l i).2 ?_
  have d1 := m.conv_dvd h l i
  have d2 : (2 : Int) ^ m.b l ∣ m.conv k i - i := Int.dvd_trans ⟨2 ^ (m.b k - m.b l), by rw [← Int.pow_add]; congr 1; omega⟩ (m.conv_dvd h k i)
  have d3 := Int.dvd_sub d1 d2
  have e : m.conv l i - i - (m.conv k i - i) = m.conv l i - m.conv k i := by omega
  rw [e] at d3
  exact d3
theorem Md.conv_sum (m : Md) (h : m.Ok) (k : Kd) (i j : Int) : m.conv k (m.conv k i + m.conv k j) = m.conv k (i + j) := by
  refine m.conv_eq h k (m.conv_in h k _).1 (m.conv_in h k _).2 ?_
  have d1 := m.conv_dvd h k (i + j)
  have d2 := Int.dvd_add (m.conv_dvd h k i) (m.conv_dvd h k j)
  have d3 := Int.dvd_sub d1 d2
  have e : m.conv k (i + j) - (i + j) - (m.conv k i - i + (m.conv k j - j)) = m.conv k (i + j) - (m.conv k i + m.conv k j) := by omega
  rw [e] at d3
  exact d3
theorem p2le {a b : Nat} (h : a ≤ b) : (2 : Int) ^ a ≤ 2 ^ b := by
  have e : ∀ n : Nat, (2 : Int) ^ n = ((2 ^ n : Nat) : Int) := fun n => by
    rw [Int.natCast_pow]
    rfl
  rw [e, e]
  exact_mod_cast Nat.pow_le_pow_right (by decide) h
theorem Md.Ok.wle {m : Md} (h : m.Ok) {i j : Nat} (hij : i ≤ j) : m.w i ≤ m.w j := by
  obtain ⟨h0, h1, h2, h3, h4, h5⟩ := h
  match i, j, hij with
  | 0, 0, _ => exact Nat.le_refl _
  | 0, 1, _ => simp only [Md.w]; omega
  | 0, 2, _ => simp only [Md.w]; omega
  | 0, 3, _ => simp only [Md.w]; omega
  | 0, n + 4, _ => simp only [Md.w]; omega
  | 1, 1, _ => exact Nat.le_refl _
  | 1, 2, _ => simp only [Md.w]; omega
  | 1, 3, _ => simp only [Md.w]; omega
  | 1, n + 4, _ => simp only [Md.w]; omega
  | 2, 2, _ => exact Nat.le_refl _
  | 2, 3, _ => simp only [Md.w]; omega
  | 2, n + 4, _ => simp only [Md.w]; omega
  | 3, 3, _ => exact Nat.le_refl _
  | 3, n + 4, _ => simp only [Md.w]; omega
  | k + 4, n + 4, _ => exact Nat.le_refl _
/-- b holds what a holds -/
def Md.In (m : Md) (a b : Kd) : Prop := m.high a ≤ m.high b ∧ m.low b ≤ m.low a
/-- b holds what a holds from 0 on -/
theorem Md.in_same (m : Md) {a b : Kd} (hs : m.un a = m.un b) (hb : m.b a ≤ m.b b) : m.In a b := by
  unfold Md.In Md.high Md.low
  rw [hs]
  have h1 := p2le hb
  have h2 := p2le (a := m.b a - 1) (b := m.b b - 1) (by omega)
  split <;> omega
theorem Md.in_us (m : Md) {u s : Kd} (hu : m.un u = true) (hs : m.un s = false) (hb : m.b u < m.b s) : m.In u s := by
  unfold Md.In Md.high Md.low
  rw [hu, hs]
  have h1 := p2le (a := m.b u) (b := m.b s - 1) (by omega)
  have h2 := p2 (m.b s - 1)
  simp
  omega
theorem Md.hi_su (m : Md) (h : m.Ok) {u s : Kd} (hu : m.un u = true) (hs : m.un s = false) (hb : m.b s ≤ m.b u) : m.high s ≤ m.high u := by
  unfold Md.high
  rw [hu, hs]
  have h1 := p2le (a := m.b s - 1) (b := m.b u) (by omega)
  simp
  omega
theorem Md.prom_in (m : Md) (h : m.Ok) (k : Kd) : m.In k (m.prom k) := by
  unfold Md.prom
  by_cases h2 : 2 ≤ k.rk
  · rw [if_pos h2]
    exact ⟨Int.le_refl _, Int.le_refl _⟩
  · rw [if_neg h2]
    have hw : m.b k ≤ m.b .it := h.wle (i := k.rk) (j := 2) (by omega)
    have hw2 : m.b k ≤ m.b .ui := hw
    by_cases h3 : m.un k = true ∧ m.b .it ≤ m.b k
    · rw [if_pos h3]
      exact m.in_same h3.1 hw2
    · rw [if_neg h3]
      cases hu : m.un k
      · exact m.in_same hu hw
      · exact m.in_us hu rfl (Nat.lt_of_not_le fun z => h3 ⟨hu, z⟩)
theorem uKd_un (m : Md) (r : Nat) : m.un (uKd r) = true := by
  match r with
  | 0 => rfl
  | 1 => rfl
  | 2 => rfl
  | 3 => rfl
  | _ + 4 => rfl
theorem uKd_b (m : Md) {r : Nat} (h : r ≤ 4) : m.b (uKd r) = m.w r := by
  match r, h with
  | 0, _ => rfl
  | 1, _ => rfl
  | 2, _ => rfl
  | 3, _ => rfl
  | 4, _ => rfl
theorem Md.mix_ok (m : Md) (h : m.Ok) {u s : Kd} (hu : m.un u = true) (hs : m.un s = false) :
    m.high u ≤ m.high (m.mix u s) ∧ m.high s ≤ m.high (m.mix u s) ∧ (m.un (m.mix u s) = false → m.low (m.mix u s) ≤ m.low u ∧ m.low (m.mix u s) ≤ m.low s) := by
  unfold Md.mix
  by_cases h1 : s.rk ≤ u.rk
  · rw [if_pos h1]
    exact ⟨Int.le_refl _, m.hi_su h hu hs (h.wle h1), fun z => by rw [hu] at z; cases z⟩
  · rw [if_neg h1]
    by_cases h2 : m.b u < m.b s
    · rw [if_pos h2]
      have hi := m.in_us hu hs h2
      exact ⟨hi.1, Int.le_refl _, fun _ => ⟨hi.2, Int.le_refl _⟩⟩
    · rw [if_neg h2]
      have eb : m.b (uKd s.rk) = m.b s := uKd_b m (by have := s.rk_lt; omega)
      have hle : m.b u ≤ m.b s := h.wle (i := u.rk) (j := s.rk) (by omega)
      refine ⟨(m.in_same (a := u) (b := uKd s.rk) (by rw [hu, uKd_un]) (by rw [eb]; exact hle)).1, m.hi_su h (uKd_un m _) hs (by rw [eb]; exact Nat.le_refl _), fun z => by rw [uKd_un] at z; cases z⟩
theorem Md.com2_ok (m : Md) (h : m.Ok) (a b : Kd) :
    m.high a ≤ m.high (m.com2 a b) ∧ m.high b ≤ m.high (m.com2 a b) ∧ (m.un (m.com2 a b) = false → m.low (m.com2 a b) ≤ m.low a ∧ m.low (m.com2 a b) ≤ m.low b) := by
  unfold Md.com2
  by_cases h1 : m.un a = m.un b
  · rw [if_pos h1]
    by_cases h2 : b.rk ≤ a.rk
    · rw [if_pos h2]
      have hi := m.in_same h1.symm (h.wle h2)
      exact ⟨Int.le_refl _, hi.1, fun _ => ⟨Int.le_refl _, hi.2⟩⟩
    · rw [if_neg h2]
      have hi := m.in_same h1 (h.wle (i := a.rk) (j := b.rk) (by omega))
      exact ⟨hi.1, Int.le_refl _, fun _ => ⟨hi.2, Int.le_refl _⟩⟩
  · rw [if_neg h1]
    cases hu : m.un a
    · have hb : m.un b = true := by
        cases hb : m.un b
        · rw [hu, hb] at h1
          exact absurd rfl h1
        · rfl
      rw [if_neg (by decide)]
      obtain ⟨x, y, z⟩ := m.mix_ok h hb hu
      exact ⟨y, x, fun w => (z w).symm⟩
    · have hb : m.un b = false := by
        cases hb : m.un b
        · rfl
        · rw [hu, hb] at h1
          exact absurd rfl h1
      rw [if_pos rfl]
      exact m.mix_ok h hu hb
theorem Md.com_ok (m : Md) (h : m.Ok) (k l : Kd) :
    m.high k ≤ m.high (m.com k l) ∧ m.high l ≤ m.high (m.com k l) ∧ (m.low (m.com k l) < 0 → m.low (m.com k l) ≤ m.low k) := by
  obtain ⟨x, y, z⟩ := m.com2_ok h (m.prom k) (m.prom l)
  have p1 := m.prom_in h k
  have p2' := m.prom_in h l
  refine ⟨Int.le_trans p1.1 x, Int.le_trans p2'.1 y, fun w => ?_⟩
  have hu : m.un (m.com2 (m.prom k) (m.prom l)) = false := by
    cases hu : m.un (m.com2 (m.prom k) (m.prom l))
    · rfl
    · have e : m.low (m.com k l) = 0 := by
        unfold Md.low Md.com
        rw [if_pos hu]
      omega
  exact Int.le_trans (z hu).1 p1.2
theorem Md.low_le (m : Md) (k : Kd) : m.low k ≤ 0 ∧ 0 ≤ m.high k := by
  unfold Md.low Md.high
  have h1 := p2 (m.b k)
  have h2 := p2 (m.b k - 1)
  split <;> omega
section
variable {K : PySem.W.Frag} {σ : L2.St} {H : Hp} {tl : TE} {xs : List V} {tu tz : TS} {D : Ends}
theorem q_forNT {j : Nat} (h : EvU tl σ H xs) (Pv : Addr → Nat → L2.St → Hp → Prop) (h0 : ∀ p H1, H p = none → Ex H H1 → H1 p = some (.tup xs) → Pv p 0 σ H1) (hl : ∀ p i σ' H', i ≤ xs.length → Pv p i σ' H' → SqT K H' p xs)
    (hs : ∀ p i x σ' H', xs[i]? = some x → Pv p i σ' H' → tu { D with nx := Pv p (i + 1), ct := Pv p (i + 1), bk := tz D } (σ'.set j (some x)) H') (hd : ∀ p σ' H', Pv p xs.length σ' H' → tz D σ' H') : tSeq (tFor (iTup K tl) (gName j) tu) tz D σ H :=
  h H (Ex.refl H) _ fun p H1 n1 e1 h1 => ⟨p, rfl, ⟨xs, st_of h1⟩, for_tup (D := { D with nx := tz D }) (Pv p) (h0 p H1 n1 e1 h1) (hl p) (hs p) (hd p)⟩
end
end Cf

namespace Cf
open PySem PySem.Spec PyProof.Rows L2 Evl
/-! ## == of dicts whose keys are tuples -/
section
variable {prog : Program} {w : World} {K : Type} [DecidableEq K] {knd : HeapKind prog w K} {A : Around} {E : Value → Shared → Prop} {s : Shared}
theorem samePairsH {nm : String} {a b : Addr} {ka kb : List (K × Addr × Value)} {Q : Bool → Shared → Prop} (hu : knd.room A) (ha : (a == sysModules) = false) (hb : (b == sysModules) = false)
    (da : s.heap.DictOfH knd a ka) (db : s.heap.DictOfH knd b kb) (hl : ka.length = kb.length)
    (hits : ∀ (i : Nat) (x : K × Addr × Value), ka[i]? = some x → (∃ (j : Nat) (p : Addr × Value), kb[j]? = some (x.1, p)) ∧ ∀ (j : Nat) (p : Addr × Value), kb[j]? = some (x.1, p) → SeqAt.EqAt A s x.2.2 p.2 true)
    (h : Q true s) : wpAny (model prog w) A (Builtin.Dict.samePairs nm a b) Q E s := by
  obtain ⟨oa, es, ep, hoa, _, hda, hea, hka, hna⟩ := da
  obtain ⟨ob, es', ep', hob, _, hdb, heb, hkb, hnb⟩ := db
  have hla : es.size = ka.length := size_of_entries hea
  have hlb : es'.size = kb.length := size_of_entries heb
  unfold Builtin.Dict.samePairs Builtin.Dict.showsAll
  rw [if_neg (show ¬ (a == sysModules) = true by rw [ha]; exact Bool.false_ne_true), if_neg (show ¬ (b == sysModules) = true by rw [hb]; exact Bool.false_ne_true)]
  refine wpAny_bind (wpAny_pure (wpAny_bind (wpAny_pure ?_)))
  refine wpAny_bind (wpAny_dictEntries hoa hda ?_)
  dsimp only
  refine wpAny_bind (wpAny_dictEntries hob hdb ?_)
  have hsz : es.size = es'.size := by omega
  rw [if_neg (by rw [hsz]; simp)]
  refine wpAny_bind (wpAny_dictEpoch hoa hda ?_)
  refine wpAny_bind ?_
  rw [Std.Legacy.Range.forIn_eq_forIn_range']
  simp only [Std.Legacy.Range.size, Nat.sub_zero, Nat.add_sub_cancel, Nat.div_one]
  refine wpAny_forIn_list _
    (fun rest q s' => s' = s ∧ q = (none, ()) ∧ ∃ i, rest = List.range' i (es.size - i) ∧ i ≤ es.size)
    _ ?_ ?_ _ _ ⟨rfl, rfl, 0, by simp, Nat.zero_le _⟩
  · rintro x rest q s' ⟨rfl, rfl, i, hr, hi⟩
    have hlt : i < es.size := by
      rcases Nat.lt_or_ge i es.size with h | h
      · exact h
      · rw [Nat.sub_eq_zero_of_le h] at hr; simp at hr
    obtain ⟨rfl, hrest⟩ : x = i ∧ rest = List.range' (i + 1) (es.size - (i + 1)) := by
      have e : es.size - i = (es.size - (i + 1)) + 1 := by omega
      rw [e, List.range'_succ] at hr
      injection hr with h1 h2
      exact ⟨h1, h2⟩
    refine wpAny_bind (wpAny_dictEntries hoa hda ?_)
    have hlt' : x < ka.length := by omega
    rw [entry_at hea x, List.getElem?_eq_getElem hlt']
    obtain ⟨⟨j0, p0, hj0⟩, hall⟩ := hits x ka[x] (List.getElem?_eq_getElem hlt')
    have hk := hka ka[x] (List.getElem_mem hlt')
    generalize ka[x] = y at hk hj0 hall ⊢
    show wpAny _ _ (holding [(entryOfKey knd y).key, (entryOfKey knd y).val] _ >>= _) _ _ _
    refine wpAny_bind (wpAny_holding (wpAny_bind (wpAny_dictFind_heap (k := y.1) (a := y.2.1) hu hk hob hdb heb hkb hnb (fun hn => absurd hj0 (hn _ _)) fun j p hj => ?_)))
    refine wpAny_bind (wpAny_dictEntries hob hdb ?_)
    rw [entry_at heb j, hj]
    refine wpAny_holding (hall j p hj prog w _ _ ?_)
    show wpAny _ _ (if (!true) = true then _ else _) _ _ _
    rw [if_neg (by decide)]
    refine wpAny_bind (wpAny_dictEpoch hoa hda ?_)
    rw [if_neg (by simp)]
    exact wpAny_pure ⟨rfl, rfl, x + 1, hrest, by omega⟩
  · rintro q s' ⟨rfl, rfl, i, hr, hi⟩
    exact wpAny_pure h
theorem keyed_ne {a b : Addr} {ka kb : List (K × Addr × Value)} {Q : Value → Shared → Prop} (hr : knd.room A.in1) (ha : (a == sysModules) = false) (hb : (b == sysModules) = false)
    (da : s.heap.DictOfH knd a ka) (db : s.heap.DictOfH knd b kb) (hu : A.units < cLine) (hl : ka.length = kb.length)
    (hits : ∀ (i : Nat) (x : K × Addr × Value), ka[i]? = some x → (∃ (j : Nat) (p : Addr × Value), kb[j]? = some (x.1, p)) ∧ ∀ (j : Nat) (p : Addr × Value), kb[j]? = some (x.1, p) → SeqAt.EqAt A.in1 s x.2.2 p.2 true)
    (h : Q (.bool false) s) : wpAny (model prog w) A (compareOp .NotEq (.ref a) (.ref b)) Q E s := by
  refine wpAny_richCompare_same_room (op := .NotEq) da.typeIs db.typeIs PySem.F.slot_dict_ne (wpAny_call_entry PySem.F.slot_dict_ne da.typeIs PySem.F.entry_dict_ne ?_ (PySem.F.args_dict_ne_2 _ _)) hu
  show wpAny _ _ (Builtin.Dict.dictSlotArgs "__ne__" ⟨[.ref a, .ref b], []⟩ >>= _) _ _ s
  refine wpAny_bind ?_
  unfold Builtin.Dict.dictSlotArgs
  refine wpAny_bind (wpAny_notOrdered_dict da.typeIs ?_)
  show wpAny _ _ (pure (Value.ref a, Value.ref b)) _ _ s
  refine wpAny_pure ?_
  refine wpAny_bind (wpAny_isInstance (T := "dict") db.typeIs PySem.F.sub_dict_dict ?_)
  simp only [Bool.not_true, Bool.false_eq_true, if_false]
  refine wpAny_bind (wpAny_pure (wpAny_bind (wpAny_pure ?_)))
  refine wpAny_bind (samePairsH hr ha hb da db hl hits ?_)
  refine wpAny_pure ⟨_, rfl, ?_, ?_⟩
  · exact fun x => nomatch x
  · simpa using h
end
theorem paired_at {α β : Type} {F : α → β → Prop} : ∀ {l₁ : List α} {l₂ : List β}, Paired F l₁ l₂ → ∀ {i : Nat} {b : β}, l₂[i]? = some b → ∃ a, l₁[i]? = some a ∧ F a b
  | _, _, .nil, _, _, h => nomatch h
  | _, _, .cons f r, 0, b, h => by
    obtain rfl := Option.some.inj h
    exact ⟨_, rfl, f⟩
  | _, _, .cons f r, i + 1, b, h => paired_at (i := i) r h
theorem paired_at1 {α β : Type} {F : α → β → Prop} : ∀ {l₁ : List α} {l₂ : List β}, Paired F l₁ l₂ → ∀ {i : Nat} {a : α}, l₁[i]? = some a → ∃ b, l₂[i]? = some b ∧ F a b
  | _, _, .nil, _, _, h => nomatch h
  | _, _, .cons f r, 0, b, h => by
    obtain rfl := Option.some.inj h
    exact ⟨_, rfl, f⟩
  | _, _, .cons f r, i + 1, b, h => paired_at1 (i := i) r h
theorem nd_at {α : Type} {l : List α} (h : l.Nodup) {i j : Nat} {a : α} (hi : l[i]? = some a) (hj : l[j]? = some a) : i = j := by
  obtain ⟨hi1, hi2⟩ := List.getElem?_eq_some_iff.mp hi
  obtain ⟨hj1, hj2⟩ := List.getElem?_eq_some_iff.mp hj
  have hp := List.pairwise_iff_getElem.mp h
  rcases Nat.lt_trichotomy i j with q | q | q
  · exact absurd (hi2.trans hj2.symm) (hp i j hi1 hj1 q)
  · exact q
  · exact absurd (hj2.trans hi2.symm) (hp j i hj1 hi1 q)
theorem nodup_at {α β : Type} {l : List (α × β)} (h : (l.map (·.1)).Nodup) {i j : Nat} {k : α} {x y : β} (hi : l[i]? = some (k, x)) (hj : l[j]? = some (k, y)) : i = j := by
  have hi' : (l.map (·.1))[i]? = some k := by rw [List.getElem?_map, hi]; rfl
  have hj' : (l.map (·.1))[j]? = some k := by rw [List.getElem?_map, hj]; rfl
  exact nd_at h hi' hj'
/-- != of two dicts with the same pairs, keys tuples, values texts -/
def rNeT : R2 := fun x y H Q => ∃ a b kvs, x = .ref a ∧ y = .ref b ∧ H a = some (.dT kvs) ∧ H b = some (.dT kvs) ∧ (∀ p ∈ kvs, ∃ z, p.2 = .str z) ∧ Q (.bl false) H
theorem op_neT {X : Cx} (hu : X.A.units + 1 < cLine) : OpR X (compareOp .NotEq) rNeT := by
  intro pins s σ H x y v u Q I rx ry h
  obtain ⟨a, b, kvs, rfl, rfl, ea, eb, hp, q⟩ := h
  obtain rfl : v = Value.ref a := rx
  obtain rfl : u = Value.ref b := ry
  obtain ⟨_, ya, xa, ra, da⟩ := dt_of I.hok ea
  obtain ⟨_, yb, xb, rb, db⟩ := dt_of I.hok eb
  have la := Paired.length ra
  have lb := Paired.length rb
  have nb : (xb.map (·.1)).Nodup := by
    obtain ⟨_, _, _, _, _, _, _, _, n⟩ := db
    exact n
  refine keyed_ne (tupleKind_room_in1 hu) ya yb da db (by omega) (la.symm.trans lb) (fun i x hx => ?_) ⟨.bl false, H, I, rfl, q⟩
  obtain ⟨p, hpi, e1, _, r1⟩ := paired_at ra hx
  obtain ⟨y, hy, f1, _, r2⟩ := paired_at1 rb hpi
  have ey : xb[i]? = some (x.1, y.2) := by
    rw [hy]
    congr 1
    exact Prod.ext (f1.symm.trans e1) rfl
  refine ⟨⟨i, y.2, ey⟩, fun j p' hj => ?_⟩
  obtain rfl : i = j := nodup_at nb ey hj
  obtain rfl : y.2 = p' := by
    rw [ey] at hj
    exact (Prod.mk.inj (Option.some.inj hj)).2
  obtain ⟨z, hz⟩ := hp p (List.mem_of_getElem? hpi)
  rw [hz] at r1 r2
  obtain ⟨t1, g1⟩ := (show ∃ t, x.2.2 = Value.str z t from r1)
  obtain ⟨t2, g2⟩ := (show ∃ t, y.2.2 = Value.str z t from r2)
  rw [g1, g2]
  have := PySem.W.keq_flat (A := X.A.in1) (s := s) (v := Value.str z t1) (y := Value.str z t2) (d := .str z) (e := .str z) (fun _ => Reads.str z t1) (fun _ => Reads.str z t2)
  simpa [PyData.eqv] using this

/-! ## the table of all common types -/
def prs : List (Kd × Kd) := Kd.all.flatMap fun k => Kd.all.map fun l => (k, l)
def keyOf (p : Kd × Kd) : List Key := [.inr p.1.s, .inr p.2.s]
def Md.ent (m : Md) (p : Kd × Kd) : List Key × V := (keyOf p, (m.com p.1 p.2).v)
def Md.tabN (m : Md) (n : Nat) : List (List Key × V) := (prs.take n).map m.ent
def Md.tab (m : Md) : List (List Key × V) := prs.map m.ent
theorem kd_s {k l : Kd} (h : k.s = l.s) : k = l := by
  have e := kd_eq k l
  have e2 : eqV k.v l.v = decide (k.s = l.s) := by cases k <;> cases l <;> rfl
  rw [e2, decide_eq_true h] at e
  exact of_decide_eq_true e.symm
theorem key_inj {p q : Kd × Kd} (h : keyOf p = keyOf q) : p = q := by
  obtain ⟨k, l⟩ := p
  obtain ⟨k2, l2⟩ := q
  unfold keyOf at h
  simp only [List.cons.injEq, Sum.inr.injEq, and_true] at h
  exact Prod.ext (kd_s h.1) (kd_s h.2)
theorem key_kV (k l : Kd) : (keyOf (k, l)).map kV = [k.v, l.v] := rfl
theorem mem_prs : ∀ (k l : Kd), (k, l) ∈ prs := fun k l => by cases k <;> cases l <;> decide +kernel
theorem prs_at (k l : Kd) : prs[11 * k.ix + l.ix]? = some (k, l) := by cases k <;> cases l <;> rfl
theorem prs_nodup : prs.Nodup := by decide +kernel
theorem prs_len : prs.length = 121 := by decide +kernel
theorem Md.tab_get (m : Md) (k l : Kd) : valV m.tab (keyOf (k, l)) = some (m.com k l).v := by
  have key : ∀ xs : List (Kd × Kd), (k, l) ∈ xs → valV (xs.map m.ent) (keyOf (k, l)) = some (m.com k l).v := by
    intro xs
    induction xs with
    | nil => intro h; exact nomatch h
    | cons x xs ih =>
      intro h
      by_cases e : x = (k, l)
      · subst e
        simp [valV, Md.ent]
      · have hk : keyOf x ≠ keyOf (k, l) := fun z => e (key_inj z)
        have := ih (by rcases List.mem_cons.mp h with z | z; exact absurd z.symm e; exact z)
        simpa [valV, Md.ent, hk] using this
  exact key prs (mem_prs k l)
theorem Md.tab_put (m : Md) {n : Nat} {p : Kd × Kd} (h : prs[n]? = some p) : putK (m.tabN n) (keyOf p) (m.com p.1 p.2).v = m.tabN (n + 1) := by
  obtain ⟨hn, e⟩ := List.getElem?_eq_some_iff.mp h
  have hno : ((m.tabN n).any fun kv => decide (kv.1 = keyOf p)) = false := by
    rw [List.any_eq_false]
    intro x hx
    obtain ⟨q, hq, rfl⟩ := List.mem_map.mp hx
    intro z
    have eq : q = p := key_inj (of_decide_eq_true z)
    subst eq
    obtain ⟨i, hi⟩ := List.mem_iff_getElem?.mp hq
    rw [List.getElem?_take] at hi
    split at hi
    · rename_i hlt
      have := nd_at prs_nodup hi h
      omega
    · exact nomatch hi
  unfold putK
  rw [hno, if_neg (by decide)]
  unfold Md.tabN
  rw [List.take_add_one, h, List.map_append]
  rfl
theorem Md.tab_str (m : Md) : ∀ p ∈ m.tab, ∃ z, p.2 = V.str z := by
  intro p hp
  obtain ⟨q, _, rfl⟩ := List.mem_map.mp hp
  exact ⟨_, rfl⟩
theorem Md.tab_all (m : Md) : m.tabN 121 = m.tab := by
  unfold Md.tabN Md.tab
  rw [← prs_len, List.take_length]
theorem Md.tabN_len (m : Md) (n : Nat) : (m.tabN n).length ≤ 121 := by
  unfold Md.tabN
  rw [List.length_map, List.length_take, prs_len]
  omega
end Cf

namespace Cf
open PySem PySem.Spec PyProof.Rows L2 Evl
/-! ## common types, finitely -/
/-- of two promoted types, by p: int is narrower than long; q: long is narrower than wide -/
def cm (p q : Bool) (a b : Kd) : Kd :=
  if a = b then a else match a, b with
  | .ui, .it => .ui | .it, .ui => .ui
  | .ui, .lo => if p then .lo else .ul | .lo, .ui => if p then .lo else .ul
  | .ui, .wi => if p || q then .wi else .uw | .wi, .ui => if p || q then .wi else .uw
  | .ul, .wi => if q then .wi else .uw | .wi, .ul => if q then .wi else .uw
  | .ul, .lo => .ul | .lo, .ul => .ul | .wi, .uw => .uw | .uw, .wi => .uw
  | a, b => if b.rk ≤ a.rk then a else b
theorem Md.com2_cm {m : Md} (o : m.Ok) {a b : Kd} (ha : a.big) (hb : b.big) : m.com2 a b = cm (decide (m.w2 < m.w3)) (decide (m.w3 < m.w4)) a b := by
  obtain ⟨h0, h1, h2, h3, h4, h5⟩ := o
  have e : (decide (m.w2 < m.w3) || decide (m.w3 < m.w4)) = decide (m.w2 < m.w4) := by
    by_cases x : m.w2 < m.w3 <;> by_cases y : m.w3 < m.w4 <;> simp [x, y] <;> omega
  rcases ha with rfl | rfl | rfl | rfl | rfl | rfl <;> rcases hb with rfl | rfl | rfl | rfl | rfl | rfl <;>
    simp [Md.com2, Md.mix, Md.un, Kd.rk, uKd, Md.b, Md.w, cm, e]
def bigs : List Kd := [.it, .ui, .lo, .ul, .wi, .uw]
theorem big_mem {k : Kd} (h : k.big) : k ∈ bigs := by
  rcases h with rfl | rfl | rfl | rfl | rfl | rfl <;> decide
theorem mem_big {k : Kd} (h : k ∈ bigs) : k.big := by
  unfold bigs at h
  unfold Kd.big
  simpa using h
theorem cm_facts : ([true, false].all fun p => [true, false].all fun q => bigs.all fun a => bigs.all fun b => decide (cm p q a b ∈ bigs) && bigs.all fun c => decide (cm p q (cm p q a b) c = cm p q a (cm p q b c))) = true := by decide +kernel
theorem cm_big (p q : Bool) {a b : Kd} (ha : a.big) (hb : b.big) : (cm p q a b).big := by
  have h := cm_facts
  simp only [List.all_eq_true] at h
  have h1 := h p (by cases p <;> decide) q (by cases q <;> decide) a (big_mem ha) b (big_mem hb)
  rw [Bool.and_eq_true] at h1
  exact mem_big (of_decide_eq_true h1.1)
theorem cm_assoc (p q : Bool) {a b c : Kd} (ha : a.big) (hb : b.big) (hc : c.big) : cm p q (cm p q a b) c = cm p q a (cm p q b c) := by
  have h := cm_facts
  simp only [List.all_eq_true] at h
  have h1 := h p (by cases p <;> decide) q (by cases q <;> decide) a (big_mem ha) b (big_mem hb)
  rw [Bool.and_eq_true, List.all_eq_true] at h1
  exact of_decide_eq_true (h1.2 c (big_mem hc))
theorem cm_self (p q : Bool) (a : Kd) : cm p q a a = a := by
  unfold cm
  rw [if_pos rfl]
theorem Md.prom_of_big (m : Md) {k : Kd} (h : k.big) : m.prom k = k := by
  unfold Md.prom
  rw [if_pos (big_rk h).1]
section
variable {m : Md} (o : m.Ok)
include o
theorem Md.com_cm (k l : Kd) : m.com k l = cm (decide (m.w2 < m.w3)) (decide (m.w3 < m.w4)) (m.prom k) (m.prom l) := m.com2_cm o (m.prom_big k) (m.prom_big l)
theorem Md.com_big (k l : Kd) : (m.com k l).big := by
  rw [m.com_cm o]
  exact cm_big _ _ (m.prom_big k) (m.prom_big l)
theorem Md.com_self (k : Kd) : m.com k k = m.prom k := by
  rw [m.com_cm o, cm_self]
theorem Md.com_assoc (k l t : Kd) : m.com (m.com k l) t = m.com k (m.com l t) := by
  rw [m.com_cm o (m.com k l) t, m.prom_of_big (m.com_big o k l), m.com_cm o k (m.com l t), m.prom_of_big (m.com_big o l t), m.com_cm o k l, m.com_cm o l t]
  exact cm_assoc _ _ (m.prom_big k) (m.prom_big l) (m.prom_big t)
theorem Md.com_l (k l : Kd) : m.com (m.com k l) l = m.com k l := by
  rw [m.com_assoc o, m.com_self o, m.com_cm o k (m.prom l), m.prom_of_big (m.prom_big l), ← m.com_cm o]
theorem Md.com_k (k l : Kd) : m.com (m.com k l) k = m.com k l := by
  rw [m.com_comm k l]
  exact m.com_l o l k
theorem Md.com_up {k l t : Kd} (h1 : m.com t k = t) (h2 : m.com t l = t) : m.com t (m.com k l) = t := by
  rw [← m.com_assoc o, h1, h2]
end
/-- wider by steps that stay where neighbours are equal -/
structure Md.Like (m n : Md) : Prop where
  u : n.u = m.u
  e0 : (m.w0 < m.w1 ↔ n.w0 < n.w1)
  e1 : (m.w1 < m.w2 ↔ n.w1 < n.w2)
  e2 : (m.w2 < m.w3 ↔ n.w2 < n.w3)
  e3 : (m.w3 < m.w4 ↔ n.w3 < n.w4)
theorem Md.Like.un {m n : Md} (h : m.Like n) (k : Kd) : n.un k = m.un k := by
  cases k <;> simp [Md.un, h.u]
theorem Md.Like.prom {m n : Md} (h : m.Like n) (o : m.Ok) (o2 : n.Ok) (k : Kd) : n.prom k = m.prom k := by
  obtain ⟨hu, e0, e1, e2, e3⟩ := h
  obtain ⟨h0, h1, h2, h3, h4, h5⟩ := o
  obtain ⟨g0, g1, g2, g3, g4, g5⟩ := o2
  have c0 : m.w2 ≤ m.w0 ↔ n.w2 ≤ n.w0 := by omega
  have c1 : m.w2 ≤ m.w1 ↔ n.w2 ≤ n.w1 := by omega
  cases k <;> simp [Md.prom, Md.un, Kd.rk, Md.b, Md.w, hu, c0, c1]
theorem Md.Like.com {m n : Md} (h : m.Like n) (o : m.Ok) (o2 : n.Ok) (k l : Kd) : n.com k l = m.com k l := by
  rw [n.com_cm o2, m.com_cm o, h.prom o o2, h.prom o o2]
  have e2 : decide (n.w2 < n.w3) = decide (m.w2 < m.w3) := decide_eq_decide.mpr h.e2.symm
  have e3 : decide (n.w3 < n.w4) = decide (m.w3 < m.w4) := decide_eq_decide.mpr h.e3.symm
  rw [e2, e3]
theorem Md.Like.tab {m n : Md} (h : m.Like n) (o : m.Ok) (o2 : n.Ok) : n.tab = m.tab := by
  unfold Md.tab
  refine List.map_congr_left fun p _ => ?_
  unfold Md.ent
  rw [h.com o o2]
/-! ### readings -/
def EvD (te : TE) (σ : L2.St) (H : Hp) (kvs : List (List Key × V)) : Prop := ∀ H1, Ex H H1 → ∀ Q : VK, (∀ p H2, H1 p = none → Ex H1 H2 → H2 p = some (.dT kvs) → Q (.ref p) H2) → te σ H1 Q
def spTab (K : PySem.W.Frag) : Sp := fun vs H Q _ => ∃ p m, vs = [.ref p] ∧ AtM K H p m ∧ m.Ok ∧ ∀ D H', H D = none → Ex H H' → H' D = some (.dT m.tab) → Q (.ref D) H'
section
variable {K : PySem.W.Frag} {σ : L2.St} {H : Hp} {ta tb tc tv : TE} {tk : TA} {tz : TS} {D : Ends} {a p : Addr} {kvs : List (List Key × V)} {k : List Key} {v : V} {m : Md}
theorem ev_tab (h : EvA tk σ H [.ref p]) (hm : AtM K H p m) (o : m.Ok) : EvD (tCall (spTab K) [] E0 tk) σ H m.tab := fun H1 e Q q =>
  h H1 e _ fun H2 e2 => ⟨p, m, rfl, hm.ex (e.trans e2), o, fun q2 H3 n e3 h3 => q q2 H3 (fresh_back e2 n) (e2.trans e3) h3⟩
theorem ev_dget (ha : Ev ta σ H (.ref a)) (hk : EvU tb σ H (k.map kV)) (h : H a = some (.dT kvs)) (hv : valV kvs k = some v) : Ev (tDGet ta tb) σ H v := fun H1 e Q q =>
  ha H1 e _ fun H2 e2 => hk H2 (e.trans e2) _ fun p H3 np e3 h3 => ⟨a, v, rfl, by
    have g := DGet.t (k := k) (e3 _ _ (e2 _ _ (e _ _ h))) h3
    rw [hv] at g
    exact g, q H3 (e2.trans e3)⟩
/-- table[k, l] -/
theorem ev_tget {k l : Kd} (ha : Ev ta σ H (.ref a)) (hb : Ev tb σ H k.v) (hc : Ev tc σ H l.v) (h : H a = some (.dT m.tab)) : Ev (tDGet ta (tTup (tCons tb (tCons tc tNil)))) σ H (m.com k l).v :=
  ev_dget (k := keyOf (k, l)) ha (eu_tup (ea_cons hb (ea_cons hc ea_nil)) (by show 2 ≤ 100000; decide)) h (m.tab_get k l)
theorem s_dput (hv : Ev tv σ H v) (ho : Ev ta σ H (.ref a)) (hk : EvU tb σ H (k.map kV)) (h : H a = some (.dT kvs)) (hl : kvs.length < 100000) (n : ∀ H1, Ex H H1 → D.nx σ (upd H1 a (.dT (putK kvs k v)))) : sDPut ta tb tv D σ H :=
  hv H (Ex.refl H) _ fun H1 e1 => ho H1 e1 _ fun H2 e2 => hk H2 (e1.trans e2) _ fun p H3 np e3 h3 => ⟨a, _, rfl, DPut.t (k := k) (e3 _ _ (e2 _ _ (e1 _ _ h))) h3 (sz_lt hl), n H3 ((e1.trans e2).trans e3)⟩
theorem ev_neDD {xs ys : List (List Key × V)} (ha : EvD ta σ H xs) (hb : EvD tb σ H ys) (e : xs = ys) (hs : ∀ p ∈ xs, ∃ z, p.2 = V.str z) : Ev (tOp rNeT ta tb) σ H (.bl false) := by
  subst e
  exact fun H1 e Q q => ha H1 e _ fun p H2 np e2 h2 => hb H2 (e.trans e2) _ fun p2 H3 np2 e3 h3 => ⟨p, p2, xs, rfl, rfl, e3 _ _ h2, h3, hs, q H3 (e2.trans e3)⟩
end
end Cf
namespace Cf
open PySem PySem.Spec PyProof.Rows L2 Evl
/-- widths so far, each with what was added, which ascends and stays where neighbours are equal -/
def Wd (m : Md) (d : Int) : Nat → List Int → Int → Prop
  | 0, xs, b => xs = [] ∧ b = 0
  | i + 1, xs, b => ∃ ys c, xs = ys ++ [(m.w i : Int) + b] ∧ Wd m d i ys c ∧ c ≤ b ∧ b ≤ c + d ∧ (i ≠ 0 → m.w i = m.w (i - 1) → b = c)
def spWider (K : PySem.W.Frag) : Sp := fun vs H Q _ => ∃ r p m n, vs = [.ref r, .ref p] ∧ AtM K H p m ∧ m.Ok ∧ n < 2 ^ 50 ∧ Rng H r n ∧
  ∀ p' H' m', Bu r H H' → Rng H' r (n + 5) → AtM K H' p' m' → m.Like m' → m'.Ok → Q (.ref p') H'
theorem Wd.end_ {m : Md} (o : m.Ok) {xs : List Int} {b : Int} (h : Wd m ((128 - (m.w4 : Int)) / 5) 5 xs b) : ∃ n : Md, n.ns = xs ∧ n.u = m.u ∧ m.Like n ∧ n.Ok := by
  obtain ⟨_, b4, rfl, ⟨_, b3, rfl, ⟨_, b2, rfl, ⟨_, b1, rfl, ⟨_, b0, rfl, ⟨rfl, rfl⟩, a0, c0, _⟩, a1, c1, d1⟩, a2, c2, d2⟩, a3, c3, d3⟩, a4, c4, d4⟩ := h
  have d1 := d1 (by decide)
  have d2 := d2 (by decide)
  have d3 := d3 (by decide)
  have d4 := d4 (by decide)
  simp only [Md.w] at d1 d2 d3 d4
  have d1 : m.w1 = m.w0 → _ := d1
  have d2 : m.w2 = m.w1 → _ := d2
  have d3 : m.w3 = m.w2 → _ := d3
  have d4 : m.w4 = m.w3 → _ := d4
  obtain ⟨h0, h1, h2, h3, h4, h5⟩ := o
  refine ⟨⟨(m.w0 + b1).toNat, (m.w1 + b2).toNat, (m.w2 + b3).toNat, (m.w3 + b4).toNat, (m.w4 + b).toNat, m.u⟩, ?_, rfl, ⟨rfl, ?_, ?_, ?_, ?_⟩, ⟨?_, ?_, ?_, ?_, ?_, ?_⟩⟩
  · show [(((m.w0 : Int) + b1).toNat : Int), (((m.w1 : Int) + b2).toNat : Int), (((m.w2 : Int) + b3).toNat : Int), (((m.w3 : Int) + b4).toNat : Int), (((m.w4 : Int) + b).toNat : Int)] = [(m.w0 : Int) + b1, (m.w1 : Int) + b2, (m.w2 : Int) + b3, (m.w3 : Int) + b4, (m.w4 : Int) + b]
    rw [Int.toNat_of_nonneg (by omega), Int.toNat_of_nonneg (by omega), Int.toNat_of_nonneg (by omega), Int.toNat_of_nonneg (by omega), Int.toNat_of_nonneg (by omega)]
  all_goals (dsimp only; omega)
theorem ev_ww {K : PySem.W.Frag} {σ : L2.St} {H : Hp} {p : Addr} {m : Md} {i j : Nat} {tj : TE} (hm : AtM K H p m) (hi : σ[i]? = some (some (.ref p))) (hj : j < 5) (h : Ev tj σ H (.int (j : Nat))) :
    Ev (tOp (rIxT K) (tOp (rIxT K) (tVar i) (tC (.int 0))) tj) σ H (.int (m.w j : Nat)) := by
  obtain ⟨q, a, b⟩ := hm
  exact ev_op (ev_op (ev_var hi) ev_c (rv_ixT a (atI_nat (j := 0) rfl))) h (rv_ixT b (atI_nat (Md.at_ hj)))
theorem par_raw {ta : TA} {tz : TS} {D : Ends} {i j : Nat} {σ : L2.St} {H : Hp} (h : ta σ H fun vs H1 => ∃ v w, vs = [v, w] ∧ tz D ((σ.set i (some v)).set j (some w)) H1) : tSeq (tPar i j ta) tz D σ H := h
theorem ea_atD {te : TE} {tr : TA} {σ : L2.St} {H : Hp} {xs : List (List Key × V)} {Q : List V → Hp → Prop} (h : EvD te σ H xs) (k : ∀ p H1, H p = none → Ex H H1 → H1 p = some (.dT xs) → tr σ H1 fun ys H2 => Q (.ref p :: ys) H2) : tCons te tr σ H Q := h H (Ex.refl H) _ k
end Cf

namespace Cf
open PySem PySem.Spec PyProof.Rows L2 Evl
/-! ## an exception that outlives its except suite -/
/-- at a: an exception that was caught, of the class cls, its dict d -/
def exk (a : Addr) (cls : Value) (d : Option Addr) : HO := .ext fun h => ∃ oe : Obj, h.get? a = some oe ∧ Zc cls d oe ∧ ∃ vs, oe.data = .fields vs
theorem exk_ok {P : Program} {w : World} {H : Hp} {h : Heap} {a : Addr} {cls : Value} {d : Option Addr} {oe : Obj} (e : h.get? a = some oe) (z : Zc cls d oe) (f : ∃ vs, oe.data = .fields vs) : ObjOk P w H h a (exk a cls d) :=
  ⟨⟨oe, e, z, f⟩, ⟨oe, e⟩, fun h1 h2 x k => by
    obtain ⟨o, p, q⟩ := x
    exact ⟨o, k _ p, q⟩⟩
section
variable {X : Cx} {pins : List (Addr × Obj)} {σ : L2.St} {H : Hp} {s : Shared}
/-- an untracked object that was not there at the entry is tracked from here on -/
theorem track {a : Addr} {o : HO} (I : Inv X pins σ H s) (hn : H a = none) (n0 : X.s_0.heap.get? a = none) (nL : a ≠ X.env.locals) (nC : ∀ x c, X.env.cells.lookup x = some c → c ≠ a) (np : ∀ p ∈ X.pn ++ pins, p.1 ≠ a)
    (new : ObjOk X.prog X.w (upd H a o) s.heap a o) : Inv X pins σ (upd H a o) s where
  ok := I.ok
  os := I.os
  bare := I.bare
  base := ⟨I.base.keep, I.base.slot, fun b u q n x => by
      rw [upd_ne (fun z => by rw [z, n0] at q; cases q)]
      exact I.base.free b u q n x, I.base.there, fun b xs q => by
      have := I.base.tups b xs q
      rw [upd_ne (ne_of_none this hn)]
      exact this, fun b u xs q => by
      have := I.base.frzs b u xs q
      rw [upd_ne (ne_of_none this hn)]
      exact this, fun b ps q => by
      obtain ⟨m, e⟩ := I.base.tbls b ps q
      exact ⟨m, by rw [upd_ne (ne_of_none e hn)]; exact e⟩⟩
  loc := I.loc
  cell := I.cell
  free := by rw [upd_ne (Ne.symm nL)]; exact I.free
  freeC := fun x c e => by rw [upd_ne (nC x c e)]; exact I.freeC x c e
  pin := fun p hp => by
    obtain ⟨e1, e2, e3⟩ := I.pin p hp
    exact ⟨e1, by rw [upd_ne (np p hp)]; exact e2, e3⟩
  hok := I.hok.laidN (fun _ _ q => q) hn new
  len := I.len
end
/-- 'except x as n' whose suite runs to its end: the exception stays known behind it -/
def wKeep (K : PySem.W.Frag) (c : Value) (i : Nat) (ts : Addr → Value → Option Addr → TS) (Wout : WX) (D : Ends) : WX := fun cls d σ H =>
  ∃ b, PySem.W.exmOne K cls c = some b ∧ (b = true → ∀ a, H a = none → ts a cls d { nx := fun σ' H' => D.nx (σ'.set i none) (upd H' a (exk a cls d)), rt := fun _ _ => False, bk := fun _ _ => False, ct := fun _ _ => False } (σ.set i (some (.ref a))) H) ∧
    (b = false → Wout cls d σ H)
section
variable {X : Cx} {x n : Str} {c : Value} {i : Nat} {body suite : List Stmt} {b₀ : Stmt} {np pos pos' : Pos} {tb : WX → TS} {ts : Addr → Value → Option Addr → TS} {Wout : WX}
theorem ps_try_keep (hs : X.stack = X.env :: X.outer) (hf : X.env.frame = some X.env.locals) (hex : X.ex = []) (hN : X.N.Nodup) (hi : X.N[i]? = some n) (hln : X.env.kindOf n = some .local) (hc : Names X x c) (tk : Takes X Wout)
    (hb : ∀ (W : WX) (pn : List (Addr × Obj)) (xe : Value → Shared → Prop), Takes (X.tr pn xe) W → PassesOwn (model X.prog X.w) X.A X.env xe → PSs (X.tr pn xe) body (tb W))
    (hsu : ∀ (a : Addr) (oe : Obj) (cls : Value) (d : Option Addr) (pn : List (Addr × Obj)), Zc cls d oe → (∃ vs, oe.data = .fields vs) → PSs (X.suite a ((a, oe) :: pn)) (b₀ :: suite) (ts a cls d)) :
    PS X (.Try body [.ExceptHandler (some (.Name x np)) (some n) (b₀ :: suite) pos'] [] [] pos) (fun D σ H => tb (wKeep X.K c i ts Wout D) D σ H) := by
  refine ⟨fun pins s σ H D I h => ?_⟩
  have ok := I.ok
  have hfr : X.A.frames = some (X.env :: X.outer) := by rw [ok.frames, hs]
  refine wpAny_Try_except (wpAny_mono ((hb (wKeep X.K c i ts Wout D) (X.pn ++ pins) (fun e s₁ => wpAny (model X.prog X.w) X.A (noteFrame e X.env) (fun _ s₂ => wpAny (model X.prog X.w) X.A (setFlight e none) (fun _ s₃ =>
    wpAny (model X.prog X.w) X.A (handleBy e X.env [.ExceptHandler (some (.Name x np)) (some n) (b₀ :: suite) pos']) (SP X pins D) X.xe s₃) X.xe s₂) X.xe s₁) (fun u s' xx => ?_) PassesOwn.looking).run [] s σ H D (I.toTry _) h) (fun f s1 hsp => ?_) (fun e s1 he => he))
  · obtain ⟨a, B, sI, pins', σ', H', cls, d, rfl, J', nb, up, sky, na, os, ag, b, hb1, hyes, hno⟩ := xx
    have J : Inv X pins σ' H' sI := J'.ofTry ok
    show wpAny (model X.prog X.w) X.A (noteFrame (.ref a) X.env) _ _ _
    refine Sky.land Zc.steady hfr hf (by rw [← hs]; exact sky) fun h3 fl3 up3 => ?_
    have J3 : Inv X pins σ' H' { s' with heap := h3 } := J.landed nb fl3.1 (up.trans up3) os ag
    obtain ⟨oe3, vs3, he3, hz3, hd3⟩ := fl3.there
    have nfr : a ∉ frs (X.env :: X.outer) := fun hm => by
      obtain ⟨_, o', e', hnf⟩ := fl3.2.2.1.mem hm
      rw [he3] at e'
      cases e'
      exact hnf _ hd3
    have nL : a ≠ X.env.locals := fun z => nfr (List.mem_filterMap.mpr ⟨X.env, List.mem_cons_self, by rw [hf, z]⟩)
    have nF : a ∉ X.fs := fun hm => by
      obtain ⟨e, he, q⟩ := List.mem_filterMap.mp hm
      exact nfr (List.mem_filterMap.mpr ⟨e, List.mem_cons_of_mem _ he, q⟩)
    have nI : sI.heap.get? a = none := by
      cases q : sI.heap.get? a with
      | none => rfl
      | some o =>
        have z := nb a o q (by rw [hs]; exact nfr)
        rw [fl3.2.1] at z
        cases z
    have n0 : X.s_0.heap.get? a = none := by
      cases q : X.s_0.heap.get? a with
      | none => rfl
      | some o =>
        obtain ⟨o', z⟩ := J.base.there a o q (by rw [hex]; exact fun z => nomatch z)
        rw [nI] at z
        cases z
    have S3 := J3.suite he3 hd3 na nL nF
    refine wpAny_handleBy_cons (codeAny_handlers_test ?_) (by intro q; cases q)
    have LM := PySem.W.exm_one (M := model X.prog X.w) (J3.kIn) (fun A Q E s k q => wpAny_typeOf_ref (k _ _ he3) (by rw [hz3.1]; exact q)) hb1
    have test : ∀ {Q : Value → Shared → Prop} {E : Value → Shared → Prop}, Q c { s' with heap := h3 } → wpAny (model X.prog X.w) (X.A.mark (some (.ref a))) (eval (.Name x np) X.env) Q E { s' with heap := h3 } := fun {Q E} q => by
      obtain ⟨hg, hdbg, hm | ⟨hm, hv, hnn⟩⟩ := hc
      · exact ld_glob (X := X.suite a ((a, oe3) :: (X.pn ++ pins))) S3 hg hm q hdbg
      · exact ld_blt (X := X.suite a ((a, oe3) :: (X.pn ++ pins))) S3 hg hm hv q hnn hdbg
    refine test (LM.here ?_)
    cases b with
    | true =>
      refine codeAny_handlers_suite_as (HandSPX.lands_againZ fl3 fun h4 fl4 up4 => ?_)
      have J4 : Inv X pins σ' H' { s' with heap := h4 } := J.landed nb fl4.1 ((up.trans up3).trans up4) os ag
      obtain ⟨oe4, vs4, he4, hz4, hd4⟩ := fl4.there
      have S4 := J4.suite he4 hd4 na nL nF
      refine store_ok (X := X.suite a ((a, oe4) :: (X.pn ++ pins))) (v := .ref a) S4 hN hi (.inl hln) rfl (fun s5 S5 => ?_) (.inr hln)
      refine wpAny_mono ((hsu a oe4 cls d (X.pn ++ pins) hz4 ⟨_, hd4⟩).run [] s5 _ H' _ S5 (hyes rfl a na)) (fun f s6 hsp => ?_) (fun _ _ z => False.elim z)
      cases f with
      | next =>
        obtain ⟨σ6, H6, S6, q6⟩ := hsp
        obtain ⟨p1, p2, _⟩ := S6.pin (a, oe4) (List.mem_append_left _ List.mem_cons_self)
        have T6 := track (o := exk a cls d) (S6.unsuite ok) p2 n0 nL (fun y c' e z => by
          obtain ⟨v, o, ho, _⟩ := J.cell y c' e
          rw [z, nI] at ho
          cases ho) (fun p hp z => by
          obtain ⟨e1, _⟩ := J.pin p hp
          rw [z, nI] at e1
          cases e1) (exk_ok p1 hz4 ⟨_, hd4⟩)
        exact gone_ok T6 hN hi hln fun s7 J7 => ⟨_, _, J7, q6⟩
      | brk =>
        obtain ⟨_, _, _, q6⟩ := hsp
        exact q6.elim
      | cont =>
        obtain ⟨_, _, _, q6⟩ := hsp
        exact q6.elim
      | ret u =>
        obtain ⟨_, _, _, _, _, q6⟩ := hsp
        exact q6.elim
    | false =>
      show wpAny _ X.A (handleBy (.ref a) X.env []) _ _ _
      refine wpAny_handleBy_nil ?_
      obtain ⟨k1, k2, k3, oe, vs, T, oT, ts', he, hz, hd, h1, hr⟩ := id fl3
      unfold PySem.passOn
      refine wpAny_bind (wpAny_field he hd h1 ?_)
      rw [if_neg (show ¬ ((Value.ref T == Value.none) = true) from by simp)]
      have fin : wpAny (model X.prog X.w) X.A (setFlight (.ref a) X.env.frame) (fun _ s4 => wpAny (model X.prog X.w) X.A (throw (.ref a) : Sem Flow) (SP X pins D) X.xe s4) X.xe { s' with heap := h3 } := by
        rw [hf]
        exact HandSPX.setFlight_upZ fl3 fun h4 hh4 up4 => wpAny_throw (tk _ _ ⟨a, B, sI, pins, σ', H', cls, d, rfl, J, nb, (up.trans up3).trans up4, .inr (.inr (by rw [hs]; exact hh4)), na, os, ag, hno rfl⟩)
      first
        | exact wpAny_bind (wpAny_pure (wpAny_bind fin))
        | exact wpAny_bind fin
  · cases f with
    | next =>
      obtain ⟨σ', H', J', q⟩ := hsp
      exact wpAny_execs_nil ⟨σ', H', J'.ofTry ok, q⟩
    | brk =>
      obtain ⟨σ', H', J', q⟩ := hsp
      exact ⟨σ', H', J'.ofTry ok, q⟩
    | cont =>
      obtain ⟨σ', H', J', q⟩ := hsp
      exact ⟨σ', H', J'.ofTry ok, q⟩
    | ret u =>
      obtain ⟨v, σ', H', J', r, q⟩ := hsp
      exact ⟨v, σ', H', J'.ofTry ok, r, q⟩
end
end Cf

namespace Cf
open PySem PySem.Spec PyProof.Rows L2 Evl
/-! ## own exceptions with one field -/
def vVal : Str := "value"
/-- what is said of the class x at C, its __init__ at fI -/
structure XC (K : PySem.W.Frag) (mg : Str → Option Value) (x : Str) (C fI : Addr) : Prop where
  g : mg x = some (.ref C)
  o : OexC K C
  e : ExcC K C
  no : PySem.W.findIn K (.ref C) vVal = some none
  iC : PySem.W.findIn K (.ref C) "__init__" = some (some (.ref fI))
  tI : PySem.W.typeIn K (.ref fI) = some (.type "function")
/-- __init__(self, value): self.value = value -/
def spInit (K : PySem.W.Frag) : Sp := fun vs H Q _ => ∃ a v C, vs = [.ref a, v] ∧ OexC K C ∧ PySem.W.findIn K (.ref C) vVal = some none ∧ H a = some (exo a C none) ∧
  ∀ dx, H dx = none → dx ≠ a → Q .non (upd (upd H dx (exd dx [(vVal, v)])) a (exo a C (some dx)))
/-- the class with its __init__ as a def -/
def Xi (P : Program) (w : World) (K : PySem.W.Frag) (mg : Str → Option Value) (base : Heap) (x : Str) (C : Addr) : Prop :=
  ∃ fI fd, XC K mg x C fI ∧ FnOk P w K mg base CX0 1 fI fd ["self", "value"] (spInit K) ∧ Binds K fd ["self", "value"] []
/-- a new exception of the class C with v is handed to E -/
def Out (C : Addr) (v : V) (H : Hp) (E : XK) : Prop := ∀ d H', H d = none → Ex H H' → H' d = some (.xd [(vVal, v)]) → E (.ref C) (some d) H'
theorem Out.ex {C : Addr} {v : V} {H H1 : Hp} {E : XK} (h : Out C v H E) (e : Ex H H1) : Out C v H1 E := fun d H' n e2 q => h d H' (fresh_back e n) (e.trans e2) q
def wide (ta : TA) : TA := fun σ H Q => ∃ Q0 : List V → Hp → Prop, ta σ H Q0 ∧ ∀ vs H1, Q0 vs H1 → Q vs H1
theorem pa_wide {X : Cx} {es : List Expr} {ta : TA} (h : PA X es ta) : PA X es (wide ta) := ⟨fun pos pins s σ H Q I q => by
  obtain ⟨Q0, h0, k⟩ := q
  refine wpAny_mono (h.run pos pins s σ H Q0 I h0) (fun us s1 hh => ?_) fun _ _ x => x
  obtain ⟨vs, H1, I1, r, z⟩ := hh
  exact ⟨vs, H1, I1, r, k _ _ z⟩⟩
/-- raise X(e) -/
def tRz (C : Addr) (W : WX) (ta : TA) : TS := fun _ σ H => ta σ H fun vs H1 => ∃ v, vs = [v] ∧ Out C v H1 fun c d H' => W c d σ H'
theorem tMk_of {K : PySem.W.Frag} {C : Addr} {ta : TA} {σ : L2.St} {H : Hp} {Q : XK} (o : OexC K C) (no : PySem.W.findIn K (.ref C) vVal = some none) (h : ta σ H fun vs H1 => ∃ v, vs = [v] ∧ Out C v H1 Q) : tMkO C (spInit K) [] (wide ta) σ H Q := by
  refine ⟨_, h, fun vs H1 z => ?_⟩
  obtain ⟨v, rfl, hO⟩ := z
  refine ⟨by show 1 ≤ 1000; decide, fun a na => ?_⟩
  refine ⟨a, v, C, rfl, o, no, upd_same, fun dx ndx nea => ⟨rfl, dx, [(vVal, v)], upd_same, by rw [upd_ne nea, upd_same], ?_, ?_⟩⟩
  · rw [upd_ne nea] at ndx
    exact ndx
  · rw [upd_ne nea] at ndx
    refine hO dx _ ndx (fun b o q => ?_) upd_same
    have nb : b ≠ a := fun z => by rw [z, na] at q; cases q
    have nd : b ≠ dx := fun z => by rw [z, ndx] at q; cases q
    rw [upd_ne nd, del_ne nb, upd_ne nb, upd_ne nd, upd_ne nb]
    exact q
section
variable {X : Cx} {x : Str} {C : Addr} {e : Expr} {ta : TA} {p pos pos2 : Pos}
theorem pmk_z {k : Nat} (T : Xi X.prog X.w X.K X.mg X.base x C) (hr : Room k X.A) (ha : PA X [e] ta) (hg : Gl X x) (hk : 2 ≤ k := by decide) (hdb : (x == ("__debug__" : Str)) = false := by decide)
    (he : starEach (e :: []) X.env = (false, eval e X.env) :: starEach [] X.env := by rfl) (hpl : (backTo pos (starEach [] X.env)).any (·.1) = false := by rfl) :
    PMk X (.Call (.Name x p) [e] [] pos) (fun σ H Q => ta σ H fun vs H1 => ∃ v, vs = [v] ∧ Out C v H1 Q) := by
  obtain ⟨fI, fd, T, F, hb⟩ := T
  have h := pmk_oex (CX := CX0) (p := p) T.o T.iC T.tI F (hr.mono (j := 1 + 1) hk) hb .nil pass0 hg T.g (pa_wide ha) hdb he hpl
  intro pins s σ H Q I q
  exact h pins s σ H Q I (tMk_of T.o T.no q)
theorem ps_raiseZ {k : Nat} {W : WX} (hc : X.calm = true) (T : Xi X.prog X.w X.K X.mg X.base x C) (hr : Room k X.A) (tk : Takes X W) (ha : PA X [e] ta) (hg : Gl X x) (hk : 2 ≤ k := by decide) (hdb : (x == ("__debug__" : Str)) = false := by decide)
    (he : starEach (e :: []) X.env = (false, eval e X.env) :: starEach [] X.env := by rfl) (hpl : (backTo pos (starEach [] X.env)).any (·.1) = false := by rfl) :
    PS X (.Raise (some (.Call (.Name x p) [e] [] pos)) none pos2) (tRz C W ta) := ⟨fun pins s σ H D I h => (ps_raise hc tk (pmk_z T hr ha hg hk hdb he hpl)).run pins s σ H D I h⟩
/-- X(e) as a value: a new exception that no one raised -/
theorem pe_made {t : L2.St → Hp → XK → Prop} (h : PMk X e t) : PE X e (fun σ H Q => t σ H fun cls d H' => ∀ a, H' a = none → Q (.ref a) (upd H' a (exk a cls d))) := by
  refine ⟨fun pins s σ H Q I q => ?_⟩
  refine wpAny_mono (h pins s σ H _ I q) (fun u s1 hh => ?_) fun _ _ x => x
  obtain ⟨a, oe, vs, sI, H', cls, d, rfl, J, k, hne, ha, hz, hd, h1, na, os, ag, r, z⟩ := hh
  have J2 := (J.laidN (t' := s1.toks) k hne na (exk_ok ha hz ⟨_, hd⟩))
  refine ⟨.ref a, _, ?_, rfl, z a na⟩
  exact ⟨J2.ok, os.trans J.os, ag, J2.base, J2.loc, J2.cell, J2.free, J2.freeC, J2.pin, J2.hok, J2.len⟩
/-- e.value of an exception that is known -/
def tXk (K : PySem.W.Frag) (n : Str) (te : TE) : TE := fun σ H Q => te σ H fun y H1 => ∃ (a C dd : Addr) (fs : List (Str × V)) (v : V), y = .ref a ∧ H1 a = some (exk a (.ref C) (some dd)) ∧ ExcC K C ∧ PySem.W.findIn K (.ref C) n = some none ∧ H1 dd = some (.xd fs) ∧ fs.lookup n = some v ∧ Q v H1
theorem pe_xk {te : TE} {n : Str} (he : PE X e te) (hb : attributeBase e n X.env (eval e X.env) = eval e X.env := by rfl) : PE X (.Attribute e n pos) (tXk X.K n te) := by
  refine ⟨fun pins s σ H Q I h => ?_⟩
  refine attr_of hb (thn (he.run pins s σ H _ I h) fun u s1 hh => ?_)
  obtain ⟨y, H1, I1, rx, a, C, dd, fs, v, rfl, ea, T, hno, ed, l, q⟩ := hh
  obtain rfl : u = Value.ref a := rx
  obtain ⟨⟨oe, ha, hz, vs, hd⟩, _, _⟩ := I1.hok a _ ea
  obtain ⟨mA, hns, hr⟩ := (show ObjOk X.prog X.w H1 s1.heap dd (.xd fs) from I1.hok dd _ ed)
  obtain ⟨od, ho, hl⟩ := lookIn_ns hns
  obtain ⟨u, hu, ru⟩ := RelO.some_of (v := v) (o := mA n) (by rw [← l]; exact hr n)
  have J : PySem.W.InstAt s1.heap a oe C (some od) := ⟨ha, hz.1, by unfold PySem.W.notCls; rw [hd] <;> rfl, by rw [hz.2]; exact ho⟩
  exact HandSPX.exc_get I1.kIn J T.hg T.hk T.hs (PySem.W.findObj_own T.hd hno rfl (by rw [hl, hu])) (handed_of ru) ⟨v, H1, I1.tok _, ru, q⟩
/-- isinstance(e, c), e an exception that is known -/
def rIsK (K : PySem.W.Frag) : List V → Hp → VK → Prop := fun xs H Q => ∃ (a D dd : Addr) (fs : List (Str × V)) (c : V) (cv : Value) (b : Bool), xs = [.ref a, c] ∧ H a = some (exk a (.ref D) (some dd)) ∧ H dd = some (.xd fs) ∧ ExcC K D ∧ (∀ u, RelV c u → u = cv) ∧ PySem.W.kitOne K (.ref D) cv = some b ∧ Q (.bl b) H
theorem call_isK : CallR X (.builtin "isinstance") (rIsK X.K) := by
  intro pins s σ H xs us Q I r h
  obtain ⟨a, D, dd, fs, c, cv, b, rfl, ea, ed, C, hcv, e, q⟩ := h
  cases r with
  | cons rx rr =>
    cases rr with
    | cons rt rr =>
      cases rr
      cases rx
      have ec := hcv _ rt
      subst ec
      obtain ⟨⟨oe, ha, hz, vs, hd⟩, _, _⟩ := I.hok a _ ea
      obtain ⟨mA, hns, hr⟩ := (show ObjOk X.prog X.w H s.heap dd (.xd fs) from I.hok dd _ ed)
      obtain ⟨od, ho, hl⟩ := lookIn_ns hns
      have J : PySem.W.InstAt s.heap a oe D (some od) := ⟨ha, hz.1, by unfold PySem.W.notCls; rw [hd] <;> rfl, by rw [hz.2]; exact ho⟩
      have hcl : (PySem.W.clsIn X.K D).isSome = true := by
        have := C.hd
        unfold PySem.W.hasDictIn at this
        cases q2 : PySem.W.clsIn X.K D with
        | none => rw [q2] at this; exact absurd this (by decide)
        | some _ => rfl
      exact PySem.W.kia_one (PySem.W.kitx_exc hcl C.hg C.hk C.hs C.ha C.hn C.ht C.hm) I.kIn J e (fun z => nomatch z) fun tk => ⟨.bl b, H, I.kept (t' := tk) fun _ _ z => z, rfl, q⟩
end

/-! ## defs that may raise -/
section
variable {X : Cx} {CX : CXT} {k : Nat} {f : Addr} {fd : FuncData} {ps ks : List Str} {sp : Sp} {E : L2.St → XK} {x : Str} {p pos : Pos} {e : Expr} {es : List Expr} {kws : List Keyword} {t tk : TA}
theorem ends_callS {pins : List (Addr × Obj)} {σ : L2.St} {H : Hp} {s : Shared} {Q : VK} {r : Result} {s' : Shared} (I : Inv X pins σ H s) (hx : PassesAt CX X σ (E σ)) (hq : CR CX X.stack X.prog X.w H s Q (E σ) r s') :
    match r with | .ok (.ret u) => EP X pins σ Q u s' | .ok _ => False | .error er => X.xe er s' := by
  match r, hq with
  | .error er, hq => exact hx pins H s er s' I hq
  | .ok (.ret u), hq => exact I.after hq
theorem pe_gS (F : FnG X.prog X.w X.K X.mg X.base CX k f fd ps sp) (hG : X.A.guards = some []) (hr : Room k X.A) (hg : Gl X x) (hm : X.mg x = some (.ref f))
    (hk : PySem.W.keepIn X.K (.ref f) = true) (hb : Binds X.K fd ps []) (hx : ∀ σ, PassesAt CX X σ (E σ)) (ha : PA X (e :: es) t)
    (hdb : (x == ("__debug__" : Str)) = false := by decide)
    (he : starEach (e :: es) X.env = (false, eval e X.env) :: starEach es X.env := by rfl)
    (hpl : (backTo pos (starEach es X.env)).any (·.1) = false := by rfl) : PE X (.Call (.Name x p) (e :: es) [] pos) (tCallS sp E t) := by
  constructor
  intro pins s σ H Q I h
  refine wpAny_Call_Name_kw (ld_glob I hg hm ?_ hdb)
  have step := thn (ha.run pos pins s σ H _ I h) (Q' := fun us s1 => X.K.In s1.heap ∧ wpAny (model X.prog X.w) X.A (call (.ref f) us) (EP X pins σ Q) X.xe s1) fun us s1 hh => by
    obtain ⟨vs, H1, I1, r, q⟩ := hh
    have el : us.length = ps.length := (r.length).symm.trans (F.len _ _ _ _ q)
    have b := hb s1 us I1.kIn (by rw [List.append_nil]; exact el)
    rw [List.append_nil] at b
    refine ⟨I1.kIn, wpAny_call (codeAny_mono (F.run X.A X.stack s1 H1 ⟨us, []⟩ us vs Q (E σ) hG hr I1.env0 b r q) fun r s' q => ?_)⟩
    have q2 := ends_callS I1 (hx σ) q
    revert q2
    match r with
    | .error er => exact id
    | .ok (.ret u) => exact id
    | .ok .next => exact False.elim
    | .ok .brk => exact False.elim
    | .ok .cont => exact False.elim
  exact PySem.W.callWith_K (h₀ := X.base) I.ok.mod.kin hk step he hpl
def tKwS (m : Nat) (sp : Sp) (gV : List V → List V) (E : L2.St → XK) (tk : TA) : TE := fun σ H Q => tk σ H fun zs H2 => zs.length = m ∧ sp (gV zs) H2 Q (E σ)
theorem pe_gkwS {g1 : List Value → List Value} {gV1 : List V → List V} (F : FnG X.prog X.w X.K X.mg X.base CX k f fd ps sp) (hG : X.A.guards = some []) (hr : Room k X.A) (hg : Gl X x) (hm : X.mg x = some (.ref f))
    (hk : PySem.W.keepIn X.K (.ref f) = true) (hb : KwB X.K fd ps ks g1 gV1) (hx : ∀ σ, PassesAt CX X σ (E σ)) (hkw : PK X kws tk)
    (hall : (backToKw pos (keywordEach kws X.env)).all (·.1.isSome) = true := by rfl)
    (hks : (backToKw pos (keywordEach kws X.env)).filterMap (·.1) = ks := by rfl)
    (hdb : (x == ("__debug__" : Str)) = false := by decide)
    (hpl : ((backTo pos (starEach [] X.env)).any (·.1) || (backToKw pos (keywordEach kws X.env)).any (·.1.isNone)) = false := by rfl) :
    PE X (.Call (.Name x p) [] kws pos) (tKwS ks.length sp gV1 E tk) := by
  constructor
  intro pins s σ H Q I h
  refine wpAny_Call_Name_kw (ld_glob I hg hm ?_ hdb)
  refine PySem.W.callWith_KW0 (h₀ := X.base) I.ok.mod.kin hk hall (thn (hkw.run pos pins s σ H _ I h) fun ws s2 hh => ?_) hpl
  obtain ⟨zs, H2, I2, rz, l2, q2⟩ := hh
  refine ⟨I2.kIn, ?_⟩
  rw [hks]
  have lw : ws.length = ks.length := rz.length.symm.trans l2
  refine wpAny_call (codeAny_mono (F.run X.A X.stack s2 H2 ⟨[], ks.zip ws⟩ (g1 ws) (gV1 zs) Q (E σ) hG hr I2.env0 (hb.to s2 ws I2.kIn lw) (hb.rel l2 rz) q2) fun r s' q => ?_)
  have q3 := ends_callS I2 (hx σ) q
  revert q3
  match r with
  | .error er => exact id
  | .ok (.ret u) => exact id
  | .ok .next => exact False.elim
  | .ok .brk => exact False.elim
  | .ok .cont => exact False.elim
end
def ClX (P : Program) (w : World) (K : PySem.W.Frag) (mg : Str → Option Value) (base : Heap) (k : Nat) (x : Str) (ps : List Str) (sp : Sp) : Prop :=
  ∃ (f : Addr) (fd : FuncData), FnG P w K mg base (L2.CX P w) k f fd ps sp ∧ mg x = some (.ref f) ∧ PySem.W.keepIn K (.ref f) = true ∧ Binds K fd ps []
def CkX (P : Program) (w : World) (K : PySem.W.Frag) (mg : Str → Option Value) (base : Heap) (k : Nat) (x : Str) (ks : List Str) (gV : List V → List V) (sp : Sp) : Prop :=
  ∃ (f : Addr) (fd : FuncData) (ps : List Str) (g : List Value → List Value), FnG P w K mg base (L2.CX P w) k f fd ps sp ∧ mg x = some (.ref f) ∧ PySem.W.keepIn K (.ref f) = true ∧ KwB K fd ps ks g gV
section
variable {P : Program} {w : World} {K : PySem.W.Frag} {mg : Str → Option Value} {base : Heap}
theorem ClX.mk {k : Nat} {x : Str} {st : Stmt} {ps : List Str} {sp : Sp} {f : Addr} {fd : FuncData} (D : Df K mg x st ps f fd) (F : FnG P w K mg base (L2.CX P w) k f fd ps sp) : ClX P w K mg base k x ps sp :=
  ⟨f, fd, F, D.g, D.F.kp, D.b⟩
theorem CkX.mk {k : Nat} {x : Str} {st : Stmt} {ps ks : List Str} {sp : Sp} {f : Addr} {fd : FuncData} {gV : List V → List V} (D : Df K mg x st ps f fd) (F : FnG P w K mg base (L2.CX P w) k f fd ps sp) (g : List Value → List Value)
    (h : ∀ (kV doc pm : Value) (an : Option Addr) (cdv ct : Value) (ws : List Value), ws.length = ks.length → bindArgs (PySem.W.fnOf x x (defArgs st) (defBody st) (defScope st) .none kV doc pm an cdv ct) ⟨[], ks.zip ws⟩ = pure (ps.zip (g ws)))
    (rel : ∀ {zs : List V} {ws : List Value}, zs.length = ks.length → Vals zs ws → Vals (gV zs) (g ws)) : CkX P w K mg base k x ks gV sp :=
  ⟨f, fd, ps, g, F, D.g, D.F.kp, fun_kw D.F h rel⟩
/-- a body that may let an exception out; nothing is handled -/
theorem df_okX {x : Str} {st : Stmt} {f : Addr} {fd : FuncData} {N ps : List Str} {k : Nat} {sp : Sp} (D : Df K mg x st ps f fd) (S : FnScope N ps (defScope st)) (len : ∀ vs H Q E, sp vs H Q E → vs.length = ps.length)
    (hbody : ∀ (cdv : Value) (A : Around) (outer : List Env) (s : Shared) (H : Hp) (vs : List V) (Q : VK) (E : XK), A.guards = some [] → Room k (A.deeper (envOfC x (defScope st) s.heap.objs.size f cdv)) →
      Takes (cxOf (L2.CX P w) P w K mg base N x (defScope st) f cdv A outer s H E) (fun cls d _ H' => E cls d H') → sp vs H Q E →
      ∃ t, PSs (cxOf (L2.CX P w) P w K mg base N x (defScope st) f cdv A outer s H E) (defBody st) t ∧ t { nx := fun _ H' => Q .non H', rt := Q } (start N vs) H) :
    FnG P w K mg base (L2.CX P w) (k + 1) f fd ps sp :=
  fun_okG D.F S len fun cdv A outer s H vs Q E hG hr hs => hbody cdv A outer s H vs Q E hG hr (takes_of rfl rfl rfl rfl) hs
end
section
variable {X : Cx} {j k : Nat} {ps ks : List Str} {sp : Sp} {x : Str} {p pos : Pos} {e : Expr} {es : List Expr} {kws : List Keyword} {t tk : TA} {W : WX}
theorem pe_clX (C : ClX X.prog X.w X.K X.mg X.base j x ps sp) (hG : X.A.guards = some []) (hr : Room k X.A) (tk : Takes X W) (hg : Gl X x) (ha : PA X (e :: es) t) (hjk : j ≤ k := by decide)
    (hdb : (x == ("__debug__" : Str)) = false := by decide)
    (he : starEach (e :: es) X.env = (false, eval e X.env) :: starEach es X.env := by rfl)
    (hpl : (backTo pos (starEach es X.env)).any (·.1) = false := by rfl) : PE X (.Call (.Name x p) (e :: es) [] pos) (tCallS sp (WE W) t) := by
  obtain ⟨f, fd, F, g, kp, b⟩ := C
  exact pe_gS F hG (hr.mono hjk) hg g kp b (fun σ => passAt tk σ) ha hdb he hpl
theorem pe_ckX {gV : List V → List V} (C : CkX X.prog X.w X.K X.mg X.base j x ks gV sp) (hG : X.A.guards = some []) (hr : Room k X.A) (tk0 : Takes X W) (hg : Gl X x) (hkw : PK X kws tk) (hjk : j ≤ k := by decide)
    (hall : (backToKw pos (keywordEach kws X.env)).all (·.1.isSome) = true := by rfl)
    (hks : (backToKw pos (keywordEach kws X.env)).filterMap (·.1) = ks := by rfl)
    (hdb : (x == ("__debug__" : Str)) = false := by decide)
    (hpl : ((backTo pos (starEach [] X.env)).any (·.1) || (backToKw pos (keywordEach kws X.env)).any (·.1.isNone)) = false := by rfl) :
    PE X (.Call (.Name x p) [] kws pos) (tKwS ks.length sp gV (WE W) tk) := by
  obtain ⟨f, fd, ps, g, F, gm, kp, b⟩ := C
  exact pe_gkwS F hG (hr.mono hjk) hg gm kp b (fun σ => passAt tk0 σ) hkw hall hks hdb hpl
end
/-- a def that gives something, or raises as o says -/
def PX (pre : List V → Hp → Option (Addr × V) → Prop) : Sp := fun vs H Q E => ∃ o, pre vs H o ∧ (o = none → ∀ v H', Ex H H' → Q v H') ∧ ∀ C v, o = some (C, v) → Out C v H E
theorem px_len {pre : List V → Hp → Option (Addr × V) → Prop} {n : Nat} (h : ∀ vs H o, pre vs H o → vs.length = n) : ∀ vs H Q E, PX pre vs H Q E → vs.length = n := fun vs H Q E q => by
  obtain ⟨o, a, _⟩ := q
  exact h _ _ _ a
section
variable {pre : List V → Hp → Option (Addr × V) → Prop} {o : Option (Addr × V)} {σ : L2.St} {H : Hp} {vs : List V} {ta : TA} {tz : TS} {D : Ends} {W : WX}
theorem q_dropX (h : EvA ta σ H vs) (hp : ∀ H1, Ex H H1 → pre vs H1 o) (h0 : o = none → ∀ H1, Ex H H1 → tz D σ H1) (h1 : ∀ C v, o = some (C, v) → ∀ H1, Ex H H1 → Out C v H1 (fun c d H' => W c d σ H')) : tSeq (tDrop (tCallS (PX pre) (WE W) ta)) tz D σ H :=
  h H (Ex.refl H) _ fun H1 e1 => ⟨o, hp H1 e1, fun z v H' e' => h0 z H' (e1.trans e'), fun C v z => h1 C v z H1 e1⟩
theorem s_dropX (h : EvA ta σ H vs) (hp : ∀ H1, Ex H H1 → pre vs H1 o) (h0 : o = none → ∀ H1, Ex H H1 → D.nx σ H1) (h1 : ∀ C v, o = some (C, v) → ∀ H1, Ex H H1 → Out C v H1 (fun c d H' => W c d σ H')) : tDrop (tCallS (PX pre) (WE W) ta) D σ H :=
  h H (Ex.refl H) _ fun H1 e1 => ⟨o, hp H1 e1, fun z v H' e' => h0 z H' (e1.trans e'), fun C v z => h1 C v z H1 e1⟩
theorem s_dropKX {gV : List V → List V} {m : Nat} (h : EvA ta σ H vs) (hl : vs.length = m) (hp : ∀ H1, Ex H H1 → pre (gV vs) H1 o) (h0 : o = none → ∀ H1, Ex H H1 → D.nx σ H1) (h1 : ∀ C v, o = some (C, v) → ∀ H1, Ex H H1 → Out C v H1 (fun c d H' => W c d σ H')) : tDrop (tKwS m (PX pre) gV (WE W) ta) D σ H :=
  h H (Ex.refl H) _ fun H1 e1 => ⟨hl, o, hp H1 e1, fun z v H' e' => h0 z H' (e1.trans e'), fun C v z => h1 C v z H1 e1⟩
theorem s_rz {C : Addr} {x : V} {te : TE} (h : Ev te σ H x) (k : ∀ H1, Ex H H1 → Out C x H1 (fun c d H' => W c d σ H')) : tRz C W (tCons te tNil) D σ H := h H (Ex.refl H) _ fun H1 e1 => ⟨x, rfl, k H1 e1⟩
end
/-! ## models that may be wrong -/
def AtX (K : PySem.W.Frag) (H : Hp) (p : Addr) (ns : List Int) (pl : Str) : Prop := ∃ q, SqT K H p [.ref q, .str pl] ∧ SqT K H q (ns.map V.int)
theorem AtX.ex {K : PySem.W.Frag} {H H' : Hp} {p : Addr} {ns : List Int} {pl : Str} (e : Ex H H') (h : AtX K H p ns pl) : AtX K H' p ns pl := by
  obtain ⟨q, a, b⟩ := h
  exact ⟨q, ex_t e a, ex_t e b⟩
def firstBad (C : Addr) : Int → Nat → List Int → Option (Addr × V)
  | _, _, [] => none
  | l, i, n :: r => if n < l ∨ 128 < n then some (C, .int (i : Nat)) else firstBad C n (i + 1) r
def chkW (C : Addr) (ns : List Int) : Option (Addr × V) := if ns.length = 5 then firstBad C 2 0 ns else some (C, .non)
def plOk (pl : Str) : Bool := inV (.str pl) vPLAIN
def chkM (C : Addr) (ns : List Int) (pl : Str) : Option (Addr × V) := match chkW C ns with
  | none => if plOk pl then none else some (C, .non)
  | some z => some z
def kdOk (x : Str) : Bool := inV (.str x) vKINDS
def chkK (C : Addr) (x : Str) : Option (Addr × V) := if kdOk x then none else some (C, .str x)
def preCW (K : PySem.W.Frag) (C : Addr) : List V → Hp → Option (Addr × V) → Prop := fun vs H o => ∃ p ns, vs = [.ref p] ∧ SqT K H p (ns.map V.int) ∧ o = chkW C ns
def preCM (K : PySem.W.Frag) (C : Addr) : List V → Hp → Option (Addr × V) → Prop := fun vs H o => ∃ p ns pl, vs = [.ref p] ∧ AtX K H p ns pl ∧ o = chkM C ns pl
def preCK (C : Addr) : List V → Hp → Option (Addr × V) → Prop := fun vs H o => ∃ x, vs = [.str x] ∧ o = chkK C x
def andThen (a b : Option (Addr × V)) : Option (Addr × V) := match a with | none => b | some z => some z
def preMX (K : PySem.W.Frag) (C D : Addr) : List V → Hp → Option (Addr × V) → Prop := fun vs H o => ∃ p ns pl x, vs = [.ref p, .str x] ∧ AtX K H p ns pl ∧ o = andThen (chkM C ns pl) (chkK D x)
def preMXI (K : PySem.W.Frag) (C D : Addr) : List V → Hp → Option (Addr × V) → Prop := fun vs H o => ∃ p ns pl x i, vs = [.ref p, .str x, .int i] ∧ AtX K H p ns pl ∧ o = andThen (chkM C ns pl) (chkK D x)
def preMXX (K : PySem.W.Frag) (C D : Addr) : List V → Hp → Option (Addr × V) → Prop := fun vs H o => ∃ p ns pl x y, vs = [.ref p, .str x, .str y] ∧ AtX K H p ns pl ∧ o = andThen (chkM C ns pl) (andThen (chkK D x) (chkK D y))
theorem firstBad_drop {C : Addr} : ∀ {ns : List Int} {l z : Int} {j i : Nat}, ns[i]? = some z → firstBad C l j (ns.drop i) = if z < l ∨ 128 < z then some (C, .int (j : Nat)) else firstBad C z (j + 1) (ns.drop (i + 1)) := by
  intro ns l z j i h
  obtain ⟨hi, e⟩ := List.getElem?_eq_some_iff.mp h
  rw [List.drop_eq_getElem_cons hi, e]
  rfl
theorem kdOk_ex {x : Str} (h : kdOk x = true) : ∃ k : Kd, k.s = x := by
  unfold kdOk inV at h
  rw [List.any_eq_true] at h
  obtain ⟨y, hy, e⟩ := h
  obtain ⟨m, hm⟩ := List.mem_iff_getElem?.mp hy
  obtain ⟨k, _, rfl⟩ := kd_at hm
  refine ⟨k, ?_⟩
  have : decide (k.s = x) = true := by
    first
      | exact e
      | simpa [eqV] using e
  exact of_decide_eq_true this
theorem chkM_ok {C : Addr} {ns : List Int} {pl : Str} (h : chkM C ns pl = none) : ∃ m : Md, m.Ok ∧ ns = m.ns ∧ pl = plS m.u := by
  unfold chkM at h
  cases hw : chkW C ns with
  | some z => rw [hw] at h; exact nomatch h
  | none =>
    rw [hw] at h
    have h : (if plOk pl then none else some (C, V.non)) = none := h
    have hp : plOk pl = true := by
      cases q : plOk pl with
      | true => rfl
      | false => rw [q] at h; exact nomatch h
    unfold chkW at hw
    split at hw
    · rename_i hl
      match ns, hl with
      | [a, b, c, d, e], _ =>
        have key : ∀ (l : Int) (i : Nat) (z : Int) (r : List Int), firstBad C l i (z :: r) = none → l ≤ z ∧ z ≤ 128 ∧ firstBad C z (i + 1) r = none := by
          intro l i z r q
          unfold firstBad at q
          split at q
          · exact nomatch q
          · exact ⟨by omega, by omega, q⟩
        obtain ⟨a1, a2, hw⟩ := key _ _ _ _ hw
        obtain ⟨b1, b2, hw⟩ := key _ _ _ _ hw
        obtain ⟨c1, c2, hw⟩ := key _ _ _ _ hw
        obtain ⟨d1, d2, hw⟩ := key _ _ _ _ hw
        obtain ⟨e1, e2, hw⟩ := key _ _ _ _ hw
        obtain ⟨u, hu⟩ : ∃ u : Bool, pl = plS u := by
          unfold plOk inV vPLAIN at hp
          simp only [List.any_cons, List.any_nil, Bool.or_false, Bool.or_eq_true] at hp
          rcases hp with hp | hp
          · exact ⟨false, ((eq_of_beq (show ("s" == pl) = true from hp))).symm⟩
          · exact ⟨true, ((eq_of_beq (show ("u" == pl) = true from hp))).symm⟩
        refine ⟨⟨a.toNat, b.toNat, c.toNat, d.toNat, e.toNat, u⟩, ⟨?_, ?_, ?_, ?_, ?_, ?_⟩, ?_, hu⟩
        · simp only []; omega
        · simp only []; omega
        · simp only []; omega
        · simp only []; omega
        · simp only []; omega
        · simp only []; omega
        · show [a, b, c, d, e] = [((a.toNat : Nat) : Int), ((b.toNat : Nat) : Int), ((c.toNat : Nat) : Int), ((d.toNat : Nat) : Int), ((e.toNat : Nat) : Int)]
          rw [Int.toNat_of_nonneg (by omega), Int.toNat_of_nonneg (by omega), Int.toNat_of_nonneg (by omega), Int.toNat_of_nonneg (by omega), Int.toNat_of_nonneg (by omega)]
    · exact nomatch hw
theorem AtX.m {K : PySem.W.Frag} {H : Hp} {p : Addr} {ns : List Int} {pl : Str} {C : Addr} (h : AtX K H p ns pl) (o : chkM C ns pl = none) : ∃ m : Md, m.Ok ∧ AtM K H p m := by
  obtain ⟨m, mo, rfl, rfl⟩ := chkM_ok o
  exact ⟨m, mo, h⟩
theorem chkK_ok {C : Addr} {x : Str} (o : chkK C x = none) : ∃ k : Kd, x = k.s := by
  unfold chkK at o
  split at o
  · rename_i h
    obtain ⟨k, e⟩ := kdOk_ex h
    exact ⟨k, e.symm⟩
  · exact nomatch o
theorem if_true_of_ {c : Bool} {A B : Prop} (hc : c = true) (h : A) : if c = true then A else B := by
  rw [if_pos hc]
  exact h
theorem if_false_of_ {c : Bool} {A B : Prop} (hc : c = false) (h : B) : if c = true then A else B := by
  rw [hc, if_neg Bool.false_ne_true]
  exact h
theorem ev_non_ {σ : L2.St} {H : Hp} : Ev (tC .non) σ H .non := ev_c
end Cf

namespace Cf
open PySem PySem.Spec PyProof.Rows L2 Evl
/-! ## which of the nine classes an exception is of -/
/-- the class at C is of these -/
structure IsF (K : PySem.W.Frag) (C c0 c1 c2 c3 c4 c5 c6 c7 c8 : Addr) (b0 b1 b2 b3 b4 b5 b6 b7 b8 : Bool) : Prop where
  e : ExcC K C
  no : PySem.W.findIn K (.ref C) vVal = some none
  k0 : PySem.W.kitOne K (.ref C) (.ref c0) = some b0
  k1 : PySem.W.kitOne K (.ref C) (.ref c1) = some b1
  k2 : PySem.W.kitOne K (.ref C) (.ref c2) = some b2
  k3 : PySem.W.kitOne K (.ref C) (.ref c3) = some b3
  k4 : PySem.W.kitOne K (.ref C) (.ref c4) = some b4
  k5 : PySem.W.kitOne K (.ref C) (.ref c5) = some b5
  k6 : PySem.W.kitOne K (.ref C) (.ref c6) = some b6
  k7 : PySem.W.kitOne K (.ref C) (.ref c7) = some b7
  k8 : PySem.W.kitOne K (.ref C) (.ref c8) = some b8
  kv : PySem.W.kitOne K (.ref C) (.type "ValueError") = some true
structure Er9 (K : PySem.W.Frag) (mg : Str → Option Value) (c0 c1 c2 c3 c4 c5 c6 c7 c8 : Addr) : Prop where
  g0 : mg "InvalidModel" = some (.ref c0)
  g1 : mg "InvalidType" = some (.ref c1)
  g2 : mg "InvalidVariables" = some (.ref c2)
  g3 : mg "InvalidExpression" = some (.ref c3)
  g4 : mg "InvalidValues" = some (.ref c4)
  g5 : mg "InvalidNumber" = some (.ref c5)
  g6 : mg "NotAdmitted" = some (.ref c6)
  g7 : mg "NothingToUndo" = some (.ref c7)
  g8 : mg "Unreadable" = some (.ref c8)
  m : IsF K c0 c0 c1 c2 c3 c4 c5 c6 c7 c8 true false false false false false false false false
  k : IsF K c1 c0 c1 c2 c3 c4 c5 c6 c7 c8 false true false false false false false false false
/-- an exception of the class C with v stands at a -/
def ExAt (H : Hp) (a C : Addr) (v : V) : Prop := ∃ dd, H a = some (exk a (.ref C) (some dd)) ∧ H dd = some (.xd [(vVal, v)])
theorem ExAt.ex {H H' : Hp} {a C : Addr} {v : V} (h : ExAt H a C v) (e : Ex H H') : ExAt H' a C v := by
  obtain ⟨dd, p, q⟩ := h
  exact ⟨dd, e _ _ p, e _ _ q⟩
theorem ExAt.bu {H H' : Hp} {a C l : Addr} {v : V} {xs : List V} (h : ExAt H a C v) (hl : H l = some (.lst xs)) (e : Bu l H H') : ExAt H' a C v := by
  obtain ⟨dd, p, q⟩ := h
  refine ⟨dd, e _ _ (ne_of p hl ?_) p, e _ _ (ne_of q hl ?_) q⟩
  · intro z
    have z' : HO.ext _ = HO.lst _ := z
    cases z'
  · intro z
    cases z
section
variable {K : PySem.W.Frag} {σ : L2.St} {H : Hp} {ta : TE} {a C c : Addr} {v : V} {b : Bool}
theorem ev_isK (ha : Ev ta σ H (.ref a)) (h : ExAt H a C v) (e : ExcC K C) (k : PySem.W.kitOne K (.ref C) (.ref c) = some b) : Ev (tCB (rIsK K) (tCons ta (tCons (tC (.ref c)) tNil))) σ H (.bl b) := ev_cb (ea_cons ha (ea_cons ev_c ea_nil)) fun H1 e1 Q1 q1 => by
  obtain ⟨dd, p, q⟩ := h.ex e1
  exact ⟨a, C, dd, _, .ref c, .ref c, b, rfl, p, q, e, fun u r => r, k, q1 H1 (Ex.refl H1)⟩
theorem ev_isKT {n : String} (ha : Ev ta σ H (.ref a)) (h : ExAt H a C v) (e : ExcC K C) (k : PySem.W.kitOne K (.ref C) (.type n) = some b) : Ev (tCB (rIsK K) (tCons ta (tCons (tC (.ty n)) tNil))) σ H (.bl b) := ev_cb (ea_cons ha (ea_cons ev_c ea_nil)) fun H1 e1 Q1 q1 => by
  obtain ⟨dd, p, q⟩ := h.ex e1
  exact ⟨a, C, dd, _, .ty n, .type n, b, rfl, p, q, e, fun u r => r, k, q1 H1 (Ex.refl H1)⟩
theorem ev_xk (ha : Ev ta σ H (.ref a)) (h : ExAt H a C v) (e : ExcC K C) (no : PySem.W.findIn K (.ref C) vVal = some none) : Ev (tXk K vVal ta) σ H v := fun H1 e1 Q q => ha H1 e1 _ fun H2 e2 => by
  obtain ⟨dd, p, z⟩ := h.ex (e1.trans e2)
  exact ⟨a, C, dd, _, v, rfl, p, e, no, z, by simp [List.lookup], q H2 e2⟩
end
/-- the list at l: pairs (name, bool), each a list -/
def Kin (H : Hp) (l : Addr) (done : List (Str × Bool)) : Prop := ∃ ps : List Addr, H l = some (.lst (ps.map V.ref)) ∧ ps.length = done.length ∧ ∀ (j : Nat) (nm : Str) (b : Bool), done[j]? = some (nm, b) → ∃ p, ps[j]? = some p ∧ p ≠ l ∧ H p = some (.lst [.str nm, .bl b])
theorem Kin.ex {H H' : Hp} {l : Addr} {done : List (Str × Bool)} (h : Kin H l done) (e : Ex H H') : Kin H' l done := by
  obtain ⟨ps, a, b, c⟩ := h
  refine ⟨ps, e _ _ a, b, fun j nm bb q => ?_⟩
  obtain ⟨p, p1, p2, p3⟩ := c j nm bb q
  exact ⟨p, p1, p2, e _ _ p3⟩
theorem q_kin {K : PySem.W.Frag} {σ : L2.St} {H : Hp} {l : Addr} {done : List (Str × Bool)} {nm : Str} {b : Bool} {i : Nat} {te : TE} {tz : TS} {D : Ends} (h : Kin H l done) (hi : σ[i]? = some (some (.ref l))) (hd : done.length < 100000) (he : EvL te σ H [.str nm, .bl b])
    (k : ∀ H', Bu l H H' → Kin H' l (done ++ [(nm, b)]) → tz D σ H') : tSeq (tDrop (tBM K "list" rAppend (tVar i) (tCons te tNil))) tz D σ H := by
  obtain ⟨ps, h1, h2, h3⟩ := h
  refine q_appL h1 (ev_var hi) he (by rw [List.length_map]; omega) fun p H1 np e1 hp => ?_
  have hpl : p ≠ l := fun z => by rw [z, h1] at np; cases np
  have bu : Bu l H (upd H1 l (.lst (ps.map V.ref ++ [.ref p]))) := fun c o nc q => by rw [upd_ne nc]; exact e1 _ _ q
  refine k _ bu ⟨ps ++ [p], by rw [upd_same, List.map_append]; rfl, by rw [List.length_append, List.length_append, h2]; rfl, fun j nm2 b2 q => ?_⟩
  by_cases hj : j < done.length
  · rw [List.getElem?_append_left hj] at q
    obtain ⟨p2, q1, q2, q3⟩ := h3 j nm2 b2 q
    exact ⟨p2, by rw [List.getElem?_append_left (by omega)]; exact q1, q2, bu _ _ q2 q3⟩
  · rw [List.getElem?_append_right (by omega)] at q
    have hj2 : j - done.length = 0 := by
      have := (List.getElem?_eq_some_iff.mp q).1
      simp at this
      omega
    rw [hj2] at q
    have q : (nm, b) = (nm2, b2) := Option.some.inj q
    cases q
    exact ⟨p, by rw [List.getElem?_append_right (by omega), h2, hj2]; rfl, hpl, by rw [upd_ne hpl]; exact hp⟩
/-- _law_kind_of -/
def spKO (K : PySem.W.Frag) (cM cK : Addr) : Sp := fun vs H Q _ => ∃ a C v nm, vs = [.ref a] ∧ ((C = cM ∧ nm = ("model" : Str)) ∨ (C = cK ∧ nm = ("kind" : Str))) ∧ ExAt H a C v ∧ ∀ p H', H p = none → Ex H H' → H' p = some (.lst [.str nm, v]) → Q (.ref p) H'
end Cf
namespace Cf
open PySem PySem.Spec PyProof.Rows L2 Evl
/-! ## what is told -/
def tm (ns : List Int) (pl : Str) : Option V := (chkM 0 ns pl).map (·.2)
def tkd (x : Str) : Option V := if kdOk x then none else some (.str x)
theorem firstBad_C (C : Addr) : ∀ (ns : List Int) (l : Int) (i : Nat), firstBad C l i ns = (firstBad 0 l i ns).map fun z => (C, z.2)
  | [], _, _ => rfl
  | n :: r, l, i => by
    unfold firstBad
    split
    · rfl
    · exact firstBad_C C r n (i + 1)
theorem chkW_C (C : Addr) (ns : List Int) : chkW C ns = (chkW 0 ns).map fun z => (C, z.2) := by
  unfold chkW
  by_cases h : ns.length = 5
  · rw [if_pos h, if_pos h, firstBad_C]
  · rw [if_neg h, if_neg h]
    rfl
theorem chkM_tm (C : Addr) (ns : List Int) (pl : Str) : chkM C ns pl = (tm ns pl).map fun v => (C, v) := by
  unfold tm chkM
  rw [chkW_C]
  cases chkW 0 ns with
  | none => by_cases p : plOk pl <;> simp [p]
  | some z => rfl
theorem chkK_tk (C : Addr) (x : Str) : chkK C x = (tkd x).map fun v => (C, v) := by
  unfold chkK tkd
  split <;> rfl
/-- what the law is told of a call: none, or the name and the value of the error -/
def told1 (ns : List Int) (pl x : Str) : Option (Bool × V) := match tm ns pl with
  | some v => some (true, v)
  | none => (tkd x).map fun v => (false, v)
def told2 (ns : List Int) (pl x y : Str) : Option (Bool × V) := match told1 ns pl x with
  | some z => some z
  | none => (tkd y).map fun v => (false, v)
def nmOf (b : Bool) : Str := if b then "model" else "kind"
def cOf (cM cK : Addr) (b : Bool) : Addr := if b then cM else cK
theorem told1_eq (cM cK : Addr) (ns : List Int) (pl x : Str) : andThen (chkM cM ns pl) (chkK cK x) = (told1 ns pl x).map fun z => (cOf cM cK z.1, z.2) := by
  rw [chkM_tm, chkK_tk]
  unfold told1
  cases tm ns pl with
  | some v => rfl
  | none => cases tkd x <;> rfl
theorem told2_eq (cM cK : Addr) (ns : List Int) (pl x y : Str) : andThen (chkM cM ns pl) (andThen (chkK cK x) (chkK cK y)) = (told2 ns pl x y).map fun z => (cOf cM cK z.1, z.2) := by
  rw [chkM_tm, chkK_tk, chkK_tk]
  unfold told2 told1
  cases tm ns pl with
  | some v => rfl
  | none => cases tkd x <;> cases tkd y <;> rfl
def toldP (pick : Int) (ns : List Int) (pl x y : Str) : Option (Bool × V) := if pick = 5 then told2 ns pl x y else told1 ns pl x
def spTold (K : PySem.W.Frag) : Sp := fun vs H Q _ => ∃ pick p ns pl x y, vs = [.int pick, .ref p, .str x, .str y] ∧ 0 ≤ pick ∧ pick ≤ 5 ∧ AtX K H p ns pl ∧
  (toldP pick ns pl x y = none → ∀ H', Ex H H' → Q .non H') ∧ ∀ b v, toldP pick ns pl x y = some (b, v) → ∀ q H', H q = none → Ex H H' → H' q = some (.lst [.str (nmOf b), v]) → Q (.ref q) H'
end Cf

namespace Cf
open PySem PySem.Spec PyProof.Rows L2 Evl
section
variable {K : PySem.W.Frag} {σ : L2.St} {H : Hp} {ta tb te : TE} {t : TT} {tr : TA}
/-- a comprehension over enumerate(list) -/
theorem el_lcEn {a : Addr} {xs : List V} {j1 j2 : Nat} {vs : List Nat} (f : Nat → Bool) (v : Nat → V) (h : EvA tr σ H [.ref a]) (hx : SqL K H a xs) (hz : xs.length ≤ 40000) (hw : ∀ x y, wipe (((wipe σ vs).set j1 (some x)).set j2 (some y)) vs = wipe σ vs)
    (ht : ∀ (i : Nat) (x : V) H1, Ex H H1 → xs[i]? = some x → EvT t (((wipe σ vs).set j1 (some (.int (i : Nat)))).set j2 (some x)) H1 (f i)) (he : ∀ (i : Nat) (x : V) H1, Ex H H1 → xs[i]? = some x → f i = true → Ev te (((wipe σ vs).set j1 (some (.int (i : Nat)))).set j2 (some x)) H1 (v i)) :
    EvL (tLc (iEnum K tr) (gTup K 2 (gCons (gName j1) (gCons (gName j2) gNil))) t te vs) σ H (given xs.length f v) := fun H0 e Q q => h H0 e _ fun H1 e1 => ⟨a, xs, rfl, ex_l (e.trans e1) hx, fun Dl hD =>
  lc_it walk_enum (Cw H1 f v Dl) ⟨hD, Ex.new hD, upd_same⟩ (fun i H' _ p => ex_l ((e.trans e1).trans p.2.1) hx) (fun i x H' H'' hi p y => by
    obtain ⟨T, a0, b0, rfl, hT, rfl, ea, eb⟩ := y
    cases (Option.some.inj ea)
    obtain ⟨p1, p2, p3⟩ := p
    exact ⟨T, _, rfl, st_of upd_same, rfl, _, _, rfl, _, _, rfl, rfl, hw _ _, cw_turn ⟨p1, p2.trans (Ex.new hT), by rw [upd_ne (ne_of_none p3 hT)]; exact p3⟩ (by omega) (ht i b0 H1 (e.trans e1) eb) (fun hf => he i b0 H1 (e.trans e1) eb hf)⟩)
    (fun H' p => q Dl H' (fresh_back e1 p.1) (e1.trans p.2.1) p.2.2)⟩
theorem el_cat {xs ys : List V} (ha : EvL ta σ H xs) (hb : EvL tb σ H ys) (hl : xs.length + ys.length ≤ 100000) : EvL (tOp rCat ta tb) σ H (xs ++ ys) := fun H1 e Q q =>
  ha H1 e _ fun p H2 np e2 h2 => hb H2 (e.trans e2) _ fun p2 H3 np2 e3 h3 => ⟨p, p2, xs, ys, rfl, rfl, e3 _ _ h2, h3, sz_of hl, fun l nl => q l _ (fresh_back (e2.trans e3) nl) ((e2.trans e3).trans (Ex.new nl)) upd_same⟩
theorem el_catV {a : Addr} {xs ys : List V} (ha : Ev ta σ H (.ref a)) (h : H a = some (.lst xs)) (hb : EvL tb σ H ys) (hl : xs.length + ys.length ≤ 100000) : EvL (tOp rCat ta tb) σ H (xs ++ ys) := fun H1 e Q q =>
  ha H1 e _ fun H2 e2 => hb H2 (e.trans e2) _ fun p2 H3 np2 e3 h3 => ⟨a, p2, xs, ys, rfl, rfl, e3 _ _ (e2 _ _ (e _ _ h)), h3, sz_of hl, fun l nl => q l _ (fresh_back (e2.trans e3) nl) ((e2.trans e3).trans (Ex.new nl)) upd_same⟩
theorem el_rep {x : V} {k : Nat} (ha : EvL ta σ H [x]) (hb : Ev tb σ H (.int (k : Nat))) (hk : k ≤ 1000) : EvL (tOp rRep ta tb) σ H (List.replicate k x) := fun H1 e Q q =>
  ha H1 e _ fun p H2 np e2 h2 => hb H2 (e.trans e2) _ fun H3 e3 => ⟨p, (k : Int), [x], rfl, rfl, e3 _ _ h2, by omega, by omega, by rw [Int.toNat_natCast]; simp only [List.length_cons, List.length_nil]; exact sz_of (by omega), fun l nl => by
    have er : (List.replicate ((k : Int).toNat) [x]).flatten = List.replicate k x := by
      rw [Int.toNat_natCast]
      clear hk hb q
      induction k with
      | zero => rfl
      | succ k ih => rw [List.replicate_succ, List.flatten_cons, ih, List.replicate_succ]; rfl
    rw [er]
    exact q l _ (fresh_back (e2.trans e3) nl) ((e2.trans e3).trans (Ex.new nl)) upd_same⟩
/-- one of several written numbers, drawn -/
theorem pickA {r : Addr} {zs : List Int} {l n j : Nat} {E : XK} {Q : VK} (h : EvA tr σ H (zs.map V.int)) (hl : zs.length = l) (l0 : 0 < l) (l1 : l ≤ 100) (g : Rng H r n) (hn : n < 2 ^ 60) (hj : σ[j]? = some (some (.ref r))) (k : ∀ H' z, Bu r H H' → Rng H' r (n + 1) → z ∈ zs → Q (.int z) H') :
    tOp (rIxL K) (tLst tr) (tCall spDraw [] E (tCons (tVar j) (tCons (tC (.int (l : Nat))) tNil))) σ H Q := by
  refine h H (Ex.refl H) _ fun H0 e0 => ⟨by rw [List.length_map]; exact sz_of (by omega), fun t nt => ?_⟩
  have e1 : Ex H (upd H0 t (.lst (zs.map V.int))) := e0.trans (Ex.new nt)
  have htr : t ≠ r := by
    obtain ⟨d, s2, c, q, _⟩ := g.ex e0
    exact fun z => by
      rw [z, q] at nt
      cases nt
  refine draw_at (l := (l : Nat)) (n := n) (ea_cons (ev_var hj) (ea_cons ev_c ea_nil)) (by omega) (log_small (by omega)) hn (g.ex e1) fun H2 v b2 g2 v0 v1 => ?_
  have h2 : H2 t = some (.lst (zs.map V.int)) := b2 _ _ htr upd_same
  obtain ⟨i, rfl⟩ : ∃ i : Nat, v = (i : Int) := ⟨v.toNat, by omega⟩
  have hi : i < zs.length := by omega
  exact ⟨t, _, (i : Int), .int zs[i], rfl, rfl, sq_of h2, atI_nat (by rw [List.getElem?_map, List.getElem?_eq_getElem hi]; rfl), k H2 zs[i] ((Bu.of e1).trans b2) g2 (List.getElem_mem hi)⟩
/-- one of several written texts, drawn -/
theorem pickS {r : Addr} {zs : List Str} {l n j : Nat} {E : XK} {Q : VK} (h : EvA tr σ H (zs.map V.str)) (hl : zs.length = l) (l0 : 0 < l) (l1 : l ≤ 100) (g : Rng H r n) (hn : n < 2 ^ 60) (hj : σ[j]? = some (some (.ref r))) (k : ∀ H' z, Bu r H H' → Rng H' r (n + 1) → z ∈ zs → Q (.str z) H') :
    tOp (rIxL K) (tLst tr) (tCall spDraw [] E (tCons (tVar j) (tCons (tC (.int (l : Nat))) tNil))) σ H Q := by
  refine h H (Ex.refl H) _ fun H0 e0 => ⟨by rw [List.length_map]; exact sz_of (by omega), fun t nt => ?_⟩
  have e1 : Ex H (upd H0 t (.lst (zs.map V.str))) := e0.trans (Ex.new nt)
  have htr : t ≠ r := by
    obtain ⟨d, s2, c, q, _⟩ := g.ex e0
    exact fun z => by
      rw [z, q] at nt
      cases nt
  refine draw_at (l := (l : Nat)) (n := n) (ea_cons (ev_var hj) (ea_cons ev_c ea_nil)) (by omega) (log_small (by omega)) hn (g.ex e1) fun H2 v b2 g2 v0 v1 => ?_
  have h2 : H2 t = some (.lst (zs.map V.str)) := b2 _ _ htr upd_same
  obtain ⟨i, rfl⟩ : ∃ i : Nat, v = (i : Int) := ⟨v.toNat, by omega⟩
  have hi : i < zs.length := by omega
  exact ⟨t, _, (i : Int), .str zs[i], rfl, rfl, sq_of h2, atI_nat (by rw [List.getElem?_map, List.getElem?_eq_getElem hi]; rfl), k H2 zs[i] ((Bu.of e1).trans b2) g2 (List.getElem_mem hi)⟩
end
theorem cut_ints (ns : List Int) (lo hi : Option Int) : ∃ zs : List Int, cutV (ns.map V.int) lo hi = zs.map V.int ∧ (∀ z ∈ zs, z ∈ ns) ∧ zs.length ≤ ns.length := by
  refine ⟨(ns.drop (HT.sIx (ns.map V.int).length 0 lo)).take (HT.sIx (ns.map V.int).length (ns.map V.int).length hi - HT.sIx (ns.map V.int).length 0 lo), ?_, fun z hz => List.mem_of_mem_drop (List.mem_of_mem_take hz), ?_⟩
  · unfold cutV
    rw [List.map_take, List.map_drop]
  · rw [List.length_take, List.length_drop]
    omega
/-! ### the first wrong width, found the law's way -/
def small (z : Int) : Prop := z.natAbs < 2 ^ 110
/-- the law's test of the width at i -/
def badAt (ns : List Int) (i : Nat) : Bool := decide (ns.getD i 0 < 2) || (decide (ns.getD i 0 > 128) || decide (ns.getD i 0 < (2 :: ns).getD i 0))
def wOf : Option V → List V
  | none => []
  | some v => [v]
def spBad (K : PySem.W.Frag) : Sp := fun vs H Q _ => ∃ r p m n, vs = [.ref r, .ref p] ∧ AtM K H p m ∧ m.Ok ∧ n < 2 ^ 50 ∧ Rng H r n ∧
  ∀ q a b H' ns pl, Bu r H H' → Rng H' r (n + 8) → H q = none → q ≠ r → H' q = some (.lst [.ref a, .ref b]) → AtX K H' a ns pl → H' b = some (.lst (wOf (tm ns pl))) → b ≠ r → (∀ z ∈ ns, small z) → ns.length ≤ 12 → Sm (.str pl) → Q (.ref q) H'
end Cf
namespace Cf
open PySem PySem.Spec PyProof.Rows L2 Evl
theorem badAt_zero {n : Int} {r : List Int} : badAt (n :: r) 0 = (decide (n < 2) || decide (n > 128)) := by
  unfold badAt
  simp only [List.getD_cons_zero]
  by_cases h : n < 2 <;> by_cases h2 : n > 128 <;> simp [h, h2]
/-- the first in the law's list is the one that the document's order finds -/
theorem firstBad_given (C : Addr) : ∀ (ns : List Int) (l : Int) (i : Nat) (f : Nat → Bool), 2 ≤ l →
    (∀ j, j < ns.length → f (i + j) = (decide (ns.getD j 0 < 2) || (decide (ns.getD j 0 > 128) || decide (ns.getD j 0 < (l :: ns).getD j 0)))) →
    firstBad C l i ns = (((List.range' i ns.length).filter f).head?).map fun j => (C, V.int (j : Nat))
  | [], _, _, _, _, _ => rfl
  | n :: r, l, i, f, hl, hf => by
    have h0 := hf 0 (by simp)
    simp only [Nat.add_zero, List.getD_cons_zero] at h0
    rw [List.length_cons, List.range'_succ, List.filter_cons]
    unfold firstBad
    by_cases c : n < l ∨ 128 < n
    · have : f i = true := by
        rw [h0]
        rcases c with c | c
        · simp [c]
        · have : n > 128 := c
          simp [this]
      rw [if_pos c, if_pos this]
      rfl
    · have hno : f i = false := by
        rw [h0]
        have a1 : ¬ n < l := fun z => c (.inl z)
        have a2 : ¬ n > 128 := fun z => c (.inr z)
        have a3 : ¬ n < 2 := by omega
        simp [a1, a2, a3]
      rw [if_neg c, if_neg (by rw [hno]; decide)]
      refine firstBad_given C r n (i + 1) f (by omega) fun j hj => ?_
      have := hf (j + 1) (by simp; omega)
      have e : i + (j + 1) = i + 1 + j := by omega
      rw [e] at this
      rw [this]
      simp only [List.getD_cons_succ]
/-- what the law makes of its list of wrong places -/
theorem tm_of (ns : List Int) (pl : Str) (h5 : ns.length = 5) : tm ns pl = match ((List.range ns.length).filter (badAt ns)).head? with
    | some j => some (.int (j : Nat))
    | none => if plOk pl then none else some .non := by
  unfold tm chkM chkW
  rw [if_pos h5, firstBad_given 0 ns 2 0 (badAt ns) (by decide) (fun j _ => by rw [Nat.zero_add]; rfl), List.range_eq_range']
  cases ((List.range' 0 ns.length).filter (badAt ns)).head? with
  | some j => rfl
  | none =>
    show Option.map _ (if plOk pl then none else some (0, V.non)) = if plOk pl then none else some V.non
    by_cases p : plOk pl <;> simp [p]
theorem tm_len (ns : List Int) (pl : Str) (h5 : ns.length ≠ 5) : tm ns pl = some .non := by
  unfold tm chkM chkW
  rw [if_neg h5]
  rfl
end Cf
namespace Cf
open PySem PySem.Spec PyProof.Rows L2 Evl
theorem par3_raw {ta : TA} {tz : TS} {D : Ends} {i j l : Nat} {σ : L2.St} {H : Hp} (h : ta σ H fun vs H1 => ∃ u v w, vs = [u, v, w] ∧ tz D (((σ.set i (some u)).set j (some v)).set l (some w)) H1) : tSeq (tPar3 i j l ta) tz D σ H := h
theorem el_listT {K : PySem.W.Frag} {σ : L2.St} {H : Hp} {ta : TE} {p : Addr} {xs : List V} (ha : Ev ta σ H (.ref p)) (h : SqT K H p xs) : EvL (tCB (rListS K) (tCons ta tNil)) σ H xs := fun H1 e Q q =>
  ha H1 e _ fun H2 e2 => ⟨p, xs, rfl, .inr (ex_t (e.trans e2) h), fun l nl => q l _ (fresh_back e2 nl) (e2.trans (Ex.new nl)) upd_same⟩
structure Sg (H0 H : Hp) (r : Addr) (n : Nat) (lw : Addr) (ns : List Int) : Prop where
  bu : Bu r H0 H
  g : Rng H r n
  n0 : H0 lw = none
  nr : lw ≠ r
  hl : H lw = some (.lst (ns.map V.int))
  sm : ∀ z ∈ ns, small z
theorem Sg.b {H0 H H' : Hp} {r lw : Addr} {n n' : Nat} {ns : List Int} (s : Sg H0 H r n lw ns) (e : Bu r H H') (g : Rng H' r n') : Sg H0 H' r n' lw ns := ⟨s.bu.trans e, g, s.n0, s.nr, e _ _ s.nr s.hl, s.sm⟩
theorem Sg.ex {H0 H H' : Hp} {r lw : Addr} {n : Nat} {ns : List Int} (s : Sg H0 H r n lw ns) (e : Ex H H') : Sg H0 H' r n lw ns := s.b (Bu.of e) (s.g.ex e)
theorem Sg.le {H0 H : Hp} {r lw : Addr} {n n' : Nat} {ns : List Int} (s : Sg H0 H r n lw ns) (l : n ≤ n') : Sg H0 H r n' lw ns := ⟨s.bu, s.g.le l, s.n0, s.nr, s.hl, s.sm⟩
theorem Sg.set {H0 H : Hp} {r lw : Addr} {n j : Nat} {ns : List Int} {z : Int} (s : Sg H0 H r n lw ns) (hz : small z) : Sg H0 (upd H lw (.lst ((ns.map V.int).set j (.int z)))) r n lw (ns.set j z) where
  bu := fun b o nb q => by
    rw [upd_ne (fun e => by rw [e, s.n0] at q; cases q)]
    exact s.bu _ _ nb q
  g := by
    obtain ⟨d, s2, c, q, q2⟩ := s.g
    exact ⟨d, s2, c, by rw [upd_ne (Ne.symm s.nr)]; exact q, q2⟩
  n0 := s.n0
  nr := s.nr
  hl := by rw [upd_same, List.map_set]
  sm := fun y hy => by
    rcases List.mem_or_eq_of_mem_set hy with h | h
    · exact s.sm y h
    · rw [h]; exact hz
theorem fresh_bu {H0 H : Hp} {r l : Addr} {n : Nat} (b : Bu r H0 H) (g : Rng H r n) (h : H l = none) : H0 l = none ∧ l ≠ r := by
  have nr : l ≠ r := fun z => by
    obtain ⟨d, s2, c, q, _⟩ := g
    rw [z, q] at h
    cases h
  refine ⟨?_, nr⟩
  cases q : H0 l with
  | none => rfl
  | some o =>
    have := b _ _ nr q
    rw [h] at this
    cases this
theorem Sg.re {H0 H H' : Hp} {r lw l : Addr} {n n' : Nat} {ns zs : List Int} (s : Sg H0 H r n lw ns) (e : Bu r H H') (g : Rng H' r n') (nl : H l = none) (hl : H' l = some (.lst (zs.map V.int))) (sm : ∀ z ∈ zs, small z) : Sg H0 H' r n' l zs := by
  obtain ⟨a, b⟩ := fresh_bu s.bu s.g nl
  exact ⟨s.bu.trans e, g, a, b, hl, sm⟩
theorem small_of {z : Int} {zs : List Int} (h : z ∈ zs) (hs : (zs.all fun z => decide (z.natAbs < 2 ^ 110)) = true) : small z := (of_decide_eq_true (List.all_eq_true.mp hs z h) : z.natAbs < 2 ^ 110)
end Cf
namespace Cf
open PySem PySem.Spec PyProof.Rows L2 Evl
theorem el_if {σ : L2.St} {H : Hp} {t : TT} {ta tb : TE} {b : Bool} {xs : List V} (h : EvT t σ H b) (h1 : b = true → EvL ta σ H xs) (h2 : b = false → EvL tb σ H xs) : EvL (tIf t ta tb) σ H xs := fun H1 e Q q => h H1 e _ fun H2 e2 => by
  cases b with
  | true => exact iteT (h1 rfl H2 (e.trans e2) Q fun p H3 n e3 h3 => q p H3 (fresh_back e2 n) (e2.trans e3) h3)
  | false => exact iteF (h2 rfl H2 (e.trans e2) Q fun p H3 n e3 h3 => q p H3 (fresh_back e2 n) (e2.trans e3) h3)
def natD (js : List Nat) : List PyData := js.map fun j => .int (j : Nat)
theorem natD_lay : ∀ js : List Nat, PyData.canLayAll0 (natD js) = true
  | [] => by simp [natD, PyData.canLayAll0]
  | j :: js => by
    have ih := natD_lay js
    unfold natD at ih ⊢
    simp [PyData.canLayAll0, PyData.canLay0, ih]
theorem natD_depth : ∀ js : List Nat, PyData.depthAll (natD js) ≤ 2
  | [] => by simp [natD, PyData.depthAll]
  | j :: js => by
    have ih := natD_depth js
    unfold natD at ih ⊢
    simp only [List.map_cons, PyData.depthAll, PyData.depth]
    omega
theorem natD_shaped (js : List Nat) : SeqAt.shaped (.list (natD js)) = true := by
  have h1 := natD_depth js
  show (PyData.canLay0 (.list (natD js)) && decide (PyData.depth (.list (natD js)) ≤ 64)) = true
  rw [Bool.and_eq_true]
  refine ⟨by simp only [PyData.canLay0]; exact natD_lay js, decide_eq_true ?_⟩
  simp only [PyData.depth]
  omega
theorem natD_dp {K : PySem.W.Frag} {H : Hp} : ∀ js : List Nat, DpAll K H (js.map fun j => V.int (j : Nat)) (natD js)
  | [] => .nil
  | j :: js => .cons (.int _) (natD_dp js)
/-- xs != [] -/
theorem ev_neNil {K : PySem.W.Frag} {σ : L2.St} {H : Hp} {ta : TE} {a : Addr} {js : List Nat} (ha : Ev ta σ H (.ref a)) (h : H a = some (.lst (js.map fun j => V.int (j : Nat)))) : Ev (tOp (rNeD K) ta (tLst tNil)) σ H (.bl (!js.isEmpty)) :=
  ev_opL (xs := []) ha (el_lst ea_nil (by decide)) fun q H1 hq e => fun H2 e2 Q k => ⟨.list (natD js), .list (natD []), .lst (sq_of (e2 _ _ (e _ _ h))) (natD_dp js), .lst (sq_of (e2 _ _ hq)) .nil, natD_shaped js, natD_shaped [], by
    have : PyData.eqv (.list (natD js)) (.list (natD [])) = js.isEmpty := by
      cases js with
      | nil => rfl
      | cons j js => simp [natD, PyData.eqv, PyData.eqvAll]
    rw [this]
    exact k H2 (Ex.refl H2)⟩
theorem given_eq (n : Nat) (f : Nat → Bool) : given n f (fun i => V.int (i : Nat)) = ((List.range n).filter f).map fun j => V.int (j : Nat) := rfl
end Cf
namespace Cf
open PySem PySem.Spec PyProof.Rows L2 Evl
def vODD : List V := [.str "", .str "Int", .str "intt", .str "in", .str "u", .str "unsigned", .str "longs", .str "int ", .str "float"]
def labs : List Str := ["char", "schar", "uchar", "short", "ushort", "int", "uint", "long", "ulong", "wide", "uwide", "", "Int", "intt", "in", "u", "unsigned", "longs", "int ", "float"]
def spLabel : Sp := fun vs H Q _ => ∃ r n, vs = [.ref r] ∧ n < 2 ^ 50 ∧ Rng H r n ∧ ∀ H' x, Bu r H H' → Rng H' r (n + 1) → x ∈ labs → Q (.str x) H'
end Cf
namespace Cf
open PySem PySem.Spec PyProof.Rows L2 Evl
theorem AtX.bu {K : PySem.W.Frag} {r p : Addr} {n : Nat} {H H1 : Hp} {ns : List Int} {pl : Str} (e : Bu r H H1) (g : Rng H r n) (h : AtX K H p ns pl) : AtX K H1 p ns pl := by
  obtain ⟨q, a, b⟩ := h
  exact ⟨q, e.t g a, e.t g b⟩
theorem AtX.dp {K : PySem.W.Frag} {H : Hp} {p : Addr} {ns : List Int} {pl : Str} (h : AtX K H p ns pl) : Dp K H (.ref p) (.tuple [.tuple (ns.map PyData.int), .str pl]) := by
  obtain ⟨q, a, b⟩ := h
  exact .tup a (.cons (.tup b (dp_ints _)) (.cons (.str _) .nil))
theorem sm_ints : ∀ {ns : List Int}, (∀ z ∈ ns, small z) → SmAll (ns.map PyData.int)
  | [], _ => trivial
  | n :: r, h => ⟨by
    have := h n List.mem_cons_self
    unfold small at this
    show n.natAbs < 2 ^ 140
    omega, sm_ints fun z hz => h z (List.mem_cons_of_mem _ hz)⟩
theorem sz_ints : ∀ ns : List Int, szAll (ns.map PyData.int) = ns.length
  | [] => rfl
  | n :: r => by
    show 1 + szAll (r.map PyData.int) = r.length + 1
    rw [sz_ints r]
    omega
theorem depth_ints : ∀ ns : List Int, PyData.depthAll (ns.map PyData.int) ≤ 2
  | [] => by simp [PyData.depthAll]
  | n :: r => by
    have := depth_ints r
    simp only [List.map_cons, PyData.depthAll, PyData.depth]
    omega
theorem labs_sm : ∀ x ∈ labs, Sm (.str x) := by
  have h : (labs.all fun x => decide (x.cps.size ≤ 30) && x.cps.toList.all fun c => decide (c < 16 ^ 8)) = true := by decide +kernel
  intro x hx
  have := List.all_eq_true.mp h x hx
  rw [Bool.and_eq_true] at this
  exact ⟨of_decide_eq_true this.1, this.2⟩
/-- what is told, as data -/
def dV : V → PyData
  | .int i => .int i
  | .str s => .str s
  | _ => .none
def okV (v : V) : Prop := v = .non ∨ (∃ i, v = .int i ∧ i.natAbs < 2 ^ 140) ∨ ∃ x, v = .str x ∧ Sm (.str x)
def dat : Option (Bool × V) → PyData
  | none => .none
  | some (b, v) => .list [.str (nmOf b), dV v]
def okO (o : Option (Bool × V)) : Prop := ∀ b v, o = some (b, v) → okV v
def Tv (H : Hp) (o : Option (Bool × V)) (x : V) : Prop := (o = none ∧ x = .non) ∨ ∃ b v a, o = some (b, v) ∧ x = .ref a ∧ H a = some (.lst [.str (nmOf b), v])
theorem Tv.ex {H H' : Hp} {o : Option (Bool × V)} {x : V} (h : Tv H o x) (e : Ex H H') : Tv H' o x := by
  rcases h with h | ⟨b, v, a, h1, h2, h3⟩
  · exact .inl h
  · exact .inr ⟨b, v, a, h1, h2, e _ _ h3⟩
theorem dV_dp {K : PySem.W.Frag} {H : Hp} {v : V} (h : okV v) : Dp K H v (dV v) := by
  rcases h with rfl | ⟨i, rfl, _⟩ | ⟨x, rfl, _⟩
  · exact .non
  · exact .int i
  · exact .str x
theorem dV_sm {v : V} (h : okV v) : Sm (dV v) := by
  rcases h with rfl | ⟨i, rfl, h⟩ | ⟨x, rfl, h⟩
  · trivial
  · exact h
  · exact h
theorem dV_sz (v : V) : szD (dV v) = 1 := by cases v <;> rfl
theorem dV_depth (v : V) : PyData.depth (dV v) ≤ 1 := by cases v <;> simp [dV, PyData.depth]
theorem Tv.dp {K : PySem.W.Frag} {H : Hp} {o : Option (Bool × V)} {x : V} (h : Tv H o x) (k : okO o) : Dp K H x (dat o) := by
  rcases h with ⟨rfl, rfl⟩ | ⟨b, v, a, rfl, rfl, h⟩
  · exact .non
  · exact .lst (sq_of h) (.cons (.str _) (.cons (dV_dp (k b v rfl)) .nil))
theorem nm_sm (b : Bool) : Sm (.str (nmOf b)) := by cases b <;> exact ⟨by decide, by decide⟩
theorem dat_sm {o : Option (Bool × V)} (k : okO o) : Sm (dat o) := by
  cases o with
  | none => trivial
  | some z =>
    obtain ⟨b, v⟩ := z
    exact ⟨nm_sm b, dV_sm (k b v rfl), trivial⟩
theorem dat_sz (o : Option (Bool × V)) : szD (dat o) ≤ 3 := by
  cases o with
  | none => decide
  | some z =>
    obtain ⟨b, v⟩ := z
    show 1 + (1 + (szD (dV v) + 0)) ≤ 3
    rw [dV_sz]
    omega
theorem dat_depth (o : Option (Bool × V)) : PyData.depth (dat o) ≤ 4 := by
  cases o with
  | none => simp [dat, PyData.depth]
  | some z =>
    obtain ⟨b, v⟩ := z
    have := dV_depth v
    simp only [dat, PyData.depth, PyData.depthAll]
    omega
theorem firstBad_ok {C : Addr} : ∀ {ns : List Int} {l : Int} {i : Nat} {z : Addr × V}, firstBad C l i ns = some z → i + ns.length ≤ 100 → okV z.2
  | [], _, _, _, h, _ => nomatch h
  | n :: r, l, i, z, h, hl => by
    unfold firstBad at h
    rw [List.length_cons] at hl
    split at h
    · cases h
      exact .inr (.inl ⟨_, rfl, by omega⟩)
    · exact firstBad_ok h (by omega)
theorem tm_okV {ns : List Int} {pl : Str} {v : V} (h : tm ns pl = some v) (hl : ns.length ≤ 12) : okV v := by
  unfold tm chkM chkW at h
  by_cases h5 : ns.length = 5
  · rw [if_pos h5] at h
    cases q : firstBad 0 2 0 ns with
    | none =>
      rw [q] at h
      by_cases p : plOk pl <;> simp [p] at h
      exact .inl h.symm
    | some z =>
      rw [q] at h
      cases h
      exact firstBad_ok q (by omega)
  · rw [if_neg h5] at h
    cases h
    exact .inl rfl
theorem tk_okV {x : Str} {v : V} (h : tkd x = some v) (hx : Sm (.str x)) : okV v := by
  unfold tkd at h
  split at h
  · exact nomatch h
  · cases h
    exact .inr (.inr ⟨x, rfl, hx⟩)
theorem told1_ok {ns : List Int} {pl x : Str} (hl : ns.length ≤ 12) (hx : Sm (.str x)) : okO (told1 ns pl x) := fun b v h => by
  unfold told1 at h
  cases q : tm ns pl with
  | some z =>
    rw [q] at h
    cases h
    exact tm_okV q hl
  | none =>
    rw [q] at h
    obtain ⟨z, h1, h2⟩ := Option.map_eq_some_iff.mp h
    cases h2
    exact tk_okV h1 hx
theorem told2_ok {ns : List Int} {pl x y : Str} (hl : ns.length ≤ 12) (hx : Sm (.str x)) (hy : Sm (.str y)) : okO (told2 ns pl x y) := fun b v h => by
  unfold told2 at h
  cases q : told1 ns pl x with
  | some z =>
    rw [q] at h
    cases h
    exact told1_ok hl hx _ _ q
  | none =>
    rw [q] at h
    obtain ⟨z, h1, h2⟩ := Option.map_eq_some_iff.mp h
    cases h2
    exact tk_okV h1 hy
theorem et_isN {σ : L2.St} {H : Hp} {ta : TE} {v : V} (h : Ev ta σ H v) : EvT (tB (tIsN ta)) σ H (decide (v = .non)) := fun H1 e Q q => h H1 e _ fun H2 e2 => ⟨_, rfl, q H2 e2⟩
theorem asg_raw {te : TE} {g : TG} {tz : TS} {D : Ends} {σ : L2.St} {H : Hp} (h : te σ H fun x H1 => g x σ H1 (tz D)) : tSeq (tAsg te g) tz D σ H := h
/-- wrong != [] -/
theorem ev_neW {K : PySem.W.Frag} {σ : L2.St} {H : Hp} {ta : TE} {a : Addr} {o : Option V} (ha : Ev ta σ H (.ref a)) (h : H a = some (.lst (wOf o))) (k : ∀ v, o = some v → okV v) (hs : ∀ v, o = some v → SeqAt.shaped (.list [dV v]) = true) : Ev (tOp (rNeD K) ta (tLst tNil)) σ H (.bl o.isSome) :=
  ev_opL (xs := []) ha (el_lst ea_nil (by decide)) fun q H1 hq e => fun H2 e2 Q kq => by
    cases o with
    | none => exact ⟨.list [], .list [], .lst (sq_of (e2 _ _ (e _ _ h))) .nil, .lst (sq_of (e2 _ _ hq)) .nil, natD_shaped [], natD_shaped [], by
        have : PyData.eqv (.list []) (.list []) = true := by simp [PyData.eqv, PyData.eqvAll]
        rw [this]
        exact kq H2 (Ex.refl H2)⟩
    | some v => exact ⟨.list [dV v], .list [], .lst (sq_of (e2 _ _ (e _ _ h))) (.cons (dV_dp (k v rfl)) .nil), .lst (sq_of (e2 _ _ hq)) .nil, hs v rfl, natD_shaped [], by
        have : PyData.eqv (.list [dV v]) (.list []) = false := by simp [PyData.eqv, PyData.eqvAll]
        rw [this]
        exact kq H2 (Ex.refl H2)⟩
end Cf
namespace Cf
open PySem PySem.Spec PyProof.Rows L2 Evl
theorem firstBad_int {C : Addr} : ∀ {ns : List Int} {l : Int} {i : Nat} {z : Addr × V}, firstBad C l i ns = some z → ∃ j : Int, z.2 = .int j
  | [], _, _, _, h => nomatch h
  | n :: r, l, i, z, h => by
    unfold firstBad at h
    split at h
    · cases h
      exact ⟨_, rfl⟩
    · exact firstBad_int h
theorem tm_shape {ns : List Int} {pl : Str} {v : V} (h : tm ns pl = some v) : SeqAt.shaped (.list [dV v]) = true := by
  have hv : v = .non ∨ ∃ j : Int, v = .int j := by
    unfold tm chkM chkW at h
    by_cases h5 : ns.length = 5
    · rw [if_pos h5] at h
      cases q : firstBad 0 2 0 ns with
      | none =>
        rw [q] at h
        by_cases p : plOk pl <;> simp [p] at h
        exact .inl h.symm
      | some z =>
        rw [q] at h
        cases h
        exact .inr (firstBad_int q)
    · rw [if_neg h5] at h
      cases h
      exact .inl rfl
  rcases hv with rfl | ⟨j, rfl⟩
  · rfl
  · show (PyData.canLay0 (.list [.int j]) && decide (PyData.depth (.list [.int j]) ≤ 64)) = true
    simp [PyData.canLay0, PyData.canLayAll0, PyData.depth, PyData.depthAll]
def ds6 (o1 o2 : Option (Bool × V)) : List PyData := [dat o1, dat o1, dat o1, dat o1, dat o1, dat o2]
theorem ds6_sm {o1 o2 : Option (Bool × V)} (k1 : okO o1) (k2 : okO o2) : Sm (.list (ds6 o1 o2)) := ⟨dat_sm k1, dat_sm k1, dat_sm k1, dat_sm k1, dat_sm k1, dat_sm k2, trivial⟩
theorem ds6_sz (o1 o2 : Option (Bool × V)) : szD (.list (ds6 o1 o2)) ≤ 800 := by
  have h1 := dat_sz o1
  have h2 := dat_sz o2
  show 1 + (szD (dat o1) + (szD (dat o1) + (szD (dat o1) + (szD (dat o1) + (szD (dat o1) + (szD (dat o2) + 0)))))) ≤ 800
  omega
theorem ds6_depth (o1 o2 : Option (Bool × V)) : PyData.depth (.list (ds6 o1 o2)) ≤ 60 := by
  have h1 := dat_depth o1
  have h2 := dat_depth o2
  simp only [ds6, PyData.depth, PyData.depthAll]
  omega
theorem told2_of_some {ns : List Int} {pl x y : Str} {z : Bool × V} (h : told1 ns pl x = some z) : told2 ns pl x y = some z := by
  unfold told2
  rw [h]
theorem kdOk_good (x : Str) : inV (.str x) vKINDS = kdOk x := rfl
theorem toldP_lt {i : Nat} {ns : List Int} {pl x y : Str} (h : i < 5) : toldP (0 + (i : Int)) ns pl x y = told1 ns pl x := by
  unfold toldP
  rw [if_neg (by omega)]
theorem toldP_5 {ns : List Int} {pl x y : Str} : toldP (0 + ((5 : Nat) : Int)) ns pl x y = told2 ns pl x y := rfl
end Cf
namespace Cf
open PySem PySem.Spec PyProof.Rows L2 Evl
theorem lcr_go {tr : TA} {g : TG} {tt : TT} {te : TE} {vs : List Nat} {σ : L2.St} {H : Hp} {Q : VK} {n : Nat} (h : EvA tr σ H [.int (n : Nat)]) (hn : n ≤ 100000)
    (Pv : Hp → Addr → Nat → Hp → Prop) (h0 : ∀ H1 D, Ex H H1 → H1 D = none → Pv H1 D 0 (upd H1 D (.lst [])))
    (hs : ∀ H1 D i H', Ex H H1 → H1 D = none → i < n → Pv H1 D i H' → g (.int (0 + (i : Nat))) (wipe σ vs) H' fun σ2 H2 => wipe σ2 vs = wipe σ vs ∧ tt σ2 H2 fun b H3 =>
      if b = true then te σ2 H3 fun y H4 => ∃ acc, H4 D = some (.lst acc) ∧ acc.length < sizeLine ∧ Pv H1 D (i + 1) (upd H4 D (.lst (acc ++ [y]))) else Pv H1 D (i + 1) H3)
    (hd : ∀ H1 D H', Ex H H1 → H1 D = none → Pv H1 D n H' → Q (.ref D) H') : tLc (iRng1 tr) g tt te vs σ H Q :=
  h H (Ex.refl H) _ fun H1 e1 => ⟨(n : Int), rfl, by omega, by omega, fun D hD => lc_range (lo := 0) (n := n) (Pv H1 D) (h0 H1 D e1 hD) (fun i H' hi p => hs H1 D i H' e1 hD hi p) (fun H' p => hd H1 D H' e1 hD p)⟩
end Cf
namespace Cf
open PySem PySem.Spec PyProof.Rows L2 Evl
theorem yes_if {σ : L2.St} {H : Hp} {A B : Hp → Prop} (h : A H) : tYes σ H fun b H3 => if b = true then A H3 else B H3 := (if_true_of_ rfl h : if true = true then A H else B H)
end Cf
namespace Cf
open PySem PySem.Spec PyProof.Rows L2 Evl
theorem next_raw {D : Ends} {σ : L2.St} {H : Hp} (h : D.nx σ H) : tNext D σ H := h
theorem ret_raw {te : TE} {D : Ends} {σ : L2.St} {H : Hp} (h : te σ H D.rt) : tRet te D σ H := h
end Cf

namespace PySem.CfK
open PySem.W PySem.Calls PyProof.Rows PySem.HandSPX
/-! ## an own exception made by keywords alone -/
section
variable {M : Model} {A : Around} {E : Value → Shared → Prop} {h : Heap} {g : Array GenState} {d : Drawn} {t : Nat} {os : OsState}
variable {nm q : Str} {C N : Addr} {bs bm bmB : List Value} {hdct : Bool} {sn : List Str} {sub : List Value} {ab : Bool} {col : Option Bool} {dd : Option Addr} {k0 k1 k2 k3 k5 : Option Value} {B newId initId : String}
theorem check_new_ownK (F : ExcBaseFacts B newId initId bmB) (hT : ∀ X : String, bm.contains (.type X) = bmB.contains (.type X)) {kw : List (Str × Value)} {Q : Unit → Shared → Prop}
    (hC : h.get? C = some (excClassObj nm q C N bs bm hdct sn sub ab col dd k0 k1 k2 k3 k5 newId)) (hq : Q () ⟨h, g, d, t, os⟩) : wpAny M A (checkBuiltinCall newId ⟨[.ref C], kw⟩) Q E ⟨h, g, d, t, os⟩ := by
  have hcont : (Value.ref C :: bm).contains (.type B) = true := by rw [List.contains_cons, hT, F.hasB, Bool.or_true]
  have hstar := F.noStar
  simp only [checkBuiltinCall, F.newKind, F.newSplit, F.newRow]
  repeat (first | refine wpAny_loadPart_at hC ?_ | (refine wpAny_isSubtype_exc hC ?_; rw [hcont]) | refine wpAny_staticBase_exc hC ?_ | refine wpAny_madeBy_exc hC ?_ | simp only [bne_self_eq_false, Bool.false_eq_true, if_false] | wp_step)
  exact hq
end
section
variable {prog : Program} {w : World} {A : Around} {E : Value → Shared → Prop} {R : Result → Shared → Prop} {h : Heap} {g : Array GenState} {d : Drawn} {t : Nat} {os : OsState}
variable {nm q : Str} {C N : Addr} {bs bm bmB : List Value} {hdct : Bool} {sn : List Str} {sub : List Value} {ab : Bool} {col : Option Bool} {dd : Option Addr} {k0 k1 k2 k3 k5 : Option Value} {B newId initId : String}
theorem new_ownK (F : ExcBaseFacts B newId initId bmB) (hT : ∀ X : String, bm.contains (.type X) = bmB.contains (.type X)) {kw : List (Str × Value)}
    (hC : h.get? C = some (excClassObj nm q C N bs bm hdct sn sub ab col dd k0 k1 k2 k3 k5 newId))
    (hq : R (.ok (.ret (.ref (h.objs.size + 1)))) ⟨(h.push { cls := .type "tuple", data := .seq #[] }).push
      { cls := .ref C, data := .fields #[.ref h.objs.size, .none, .none, .none, .bool false, .none] }, g, d, t, os⟩) :
    codeAny (model prog w) A (.builtin newId ⟨[.ref C], kw⟩) R ⟨h, g, d, t, os⟩ := by
  have hends := F.ends
  have hcB : (Value.ref C :: bm).contains (.type B) = true := by rw [List.contains_cons, hT, F.hasB, Bool.or_true]
  have hcA : (Value.ref C :: bm).contains (.type "AttributeError") = false := by rw [List.contains_cons, hT, F.noAttr]; rfl
  have hcN : (Value.ref C :: bm).contains (.type "NameError") = false := by rw [List.contains_cons, hT, F.noName]; rfl
  refine codeAny_builtinAt F.entry ?_
  unfold Builtin.«BaseException.__new__»
  refine wpAt_bind ?_
  show wpAt _ _ _ (stack >>= _) _ _ _
  refine wpAt_bind (wpAt_stack fun p below => wpAt_of_wpAny ?_)
  wp_walk
  refine wpAt_of_wpAny ?_
  rw [F.owner]
  repeat (first | with_reducible refine wpAny_madeHere_exc F.canon hC ?_ | with_reducible refine wpAny_loadPart_at hC ?_ | (with_reducible refine wpAny_isSubtype_exc hC ?_; first | rw [hcB] | rw [hcA] | rw [hcN]) | wp_step)
  show R _ _
  rw [Heap.size_push]
  exact hq
theorem type_call_ownK (F : ExcBaseFacts B newId initId bmB) (hT : ∀ X : String, bm.contains (.type X) = bmB.contains (.type X)) {kw : List (Str × Value)} {fI : Addr} {Q : Fin → Shared → Prop}
    (hC : h.get? C = some (excClassObj nm q C N bs bm hdct sn sub ab col dd k0 k1 k2 k3 k5 newId))
    (hi : W.Looks (model prog w) h (typeLookup (.ref C) "__init__") (some (.ref fI))) (hb : ∀ self, W.Looks (model prog w) h (bindSpecial (.ref fI) self) (.ref fI, [self]))
    (hq : codeAny (model prog w) A (.call (.ref fI) ⟨[.ref (h.objs.size + 1)], kw⟩)
      (fun r s' => match r with | .ok (.ret v) => v = .none ∧ Q (.done (.ret (.ref (h.objs.size + 1)))) s' | .ok _ => False | .error e => E e s')
      ⟨(h.push (W.kdv_tup [])).push (excO C h.objs.size), g, d, t, os⟩) :
    wpAny (model prog w) A (Builtin.«type.__call__» ⟨[.ref C], kw⟩) Q E ⟨h, g, d, t, os⟩ := by
  repeat (first | with_reducible refine wpAny_loadPart_at hC ?_ | with_reducible refine wpAny_madeBy_exc hC ?_ | wp_step)
  refine codeAny_call_builtin_code (Code.quiet_builtin _ F.quiet) (check_new_ownK F hT hC ?_)
  refine new_ownK F hT hC ?_
  show wpAny _ _ _ _ _ _
  have k : ∀ b o, h.get? b = some o → ((h.push (W.kdv_tup [])).push (excO C h.objs.size)).get? b = some o := fun b o e => Heap.get?_push_of_some _ (Heap.get?_push_of_some _ e)
  have hC₁ := k _ _ hC
  have hget : ((h.push (W.kdv_tup [])).push (excO C h.objs.size)).get? (h.objs.size + 1) = some (excO C h.objs.size) := by heap_get
  have hcC : (Value.ref C :: bm).contains (.ref C) = true := by simp
  have i1 := hi.keeps k
  have b1 := (hb (.ref (h.objs.size + 1))).keeps k
  unfold isInstance
  repeat (first | with_reducible refine wpAny_loadPart_at hget ?_ | (with_reducible refine wpAny_isSubtype_exc hC₁ ?_; rw [hcC]) | wp_step)
  show wpAny _ _ (typeLookup (.ref C) _) _ _ _
  refine i1.at ?_
  refine wpAny_holding (wpAny_bind (b1.at ?_))
  refine wpAny_bind (wpAny_call (codeAny_mono hq fun r s' z => ?_))
  rcases r with e | (v | _ | _ | _) <;> first | exact z | exact z.elim | skip
  obtain ⟨rfl, z⟩ := z
  first
    | exact wpAny_pure (wpAny_pure z)
    | (wp_walk; exact z)
theorem call_ownK (F : ExcBaseFacts B newId initId bmB) (hT : ∀ X : String, bm.contains (.type X) = bmB.contains (.type X)) {kw : List (Str × Value)} {fI : Addr}
    (hC : h.get? C = some (excClassObj nm q C N bs bm hdct sn sub ab col dd k0 k1 k2 k3 k5 newId))
    (hi : W.Looks (model prog w) h (typeLookup (.ref C) "__init__") (some (.ref fI))) (hb : ∀ self, W.Looks (model prog w) h (bindSpecial (.ref fI) self) (.ref fI, [self]))
    (hq : codeAny (model prog w) (A.under (.builtin "type.__call__" ⟨[.ref C], kw⟩)) (.call (.ref fI) ⟨[.ref (h.objs.size + 1)], kw⟩) (W.InitBack (h.objs.size + 1) R)
      ⟨(h.push (W.kdv_tup [])).push (excO C h.objs.size), g, d, t, os⟩) :
    codeAny (model prog w) A (.call (.ref C) ⟨[], kw⟩) R ⟨h, g, d, t, os⟩ := by
  have f1 := tc_lookup
  have f2 := tc_bind (.ref C)
  have hTy : (⟨h, g, d, t, os⟩ : Shared).TypeIs (.ref C) "type" := ⟨_, hC, rfl⟩
  refine codeAny_of_tree ?_
  show wpAny _ _ (callAny (.ref C) _) _ _ _
  repeat (any_goals (first | assumption | with_reducible refine wpAny_loadPart_at hC ?_ | wp_step))
  refine ⟨rfl, ?_⟩
  refine codeAny_call_builtin_at (Code.quiet_builtin _ (by decide +kernel)) entry_typeCall (wpAny_check_type_call_sub hC (type_call_ownK F hT hC hi hb ?_))
  refine codeAny_mono hq fun r s' z => ?_
  rcases r with e | (v | _ | _ | _) <;> exact z
end
end PySem.CfK
namespace Cf
open PySem PySem.Spec PyProof.Rows L2 Evl
/-- the class, its __init__ as a def, also by keyword -/
def XiK (P : Program) (w : World) (K : PySem.W.Frag) (mg : Str → Option Value) (base : Heap) (x : Str) (C : Addr) : Prop :=
  ∃ fI fd, XC K mg x C fI ∧ FnOk P w K mg base CX0 1 fI fd ["self", "value"] (spInit K) ∧ Binds K fd ["self", "value"] [] ∧ ∀ (s : Shared) (a u : Value), BindsTo s fd ⟨[a], [(vVal, u)]⟩ [("self", a), ("value", u)]
theorem XiK.xi {P : Program} {w : World} {K : PySem.W.Frag} {mg : Str → Option Value} {base : Heap} {x : Str} {C : Addr} (h : XiK P w K mg base x C) : Xi P w K mg base x C := by
  obtain ⟨fI, fd, a, b, c, _⟩ := h
  exact ⟨fI, fd, a, b, c⟩
section
variable {X : Cx} {x : Str} {C : Addr} {kws : List Keyword} {tk : TA} {p pos : Pos}
theorem pmk_zK {k : Nat} (T : XiK X.prog X.w X.K X.mg X.base x C) (hr : Room k X.A) (hkw : PK X kws tk) (hg : Gl X x) (hk : 2 ≤ k := by decide)
    (hall : (backToKw pos (keywordEach kws X.env)).all (·.1.isSome) = true := by rfl)
    (hks : (backToKw pos (keywordEach kws X.env)).filterMap (·.1) = [vVal] := by rfl) (hdb : (x == ("__debug__" : Str)) = false := by decide)
    (hpl : ((backTo pos (starEach [] X.env)).any (·.1) || (backToKw pos (keywordEach kws X.env)).any (·.1.isNone)) = false := by rfl) :
    PMk X (.Call (.Name x p) [] kws pos) (fun σ H Q => tk σ H fun zs H1 => ∃ v, zs = [v] ∧ Out C v H1 Q) := by
  obtain ⟨fI, fd, T, F1, hb, hbk⟩ := T
  intro pins s σ H Q I h
  obtain ⟨nm, q, N, bs, bm, sn, sub, ab, col, dd, k0, k1, k2, k3, k5, hC, hbm⟩ := T.o.cls
  refine wpAny_Call_Name_kw (ld_glob I hg T.g ?_ hdb)
  refine PySem.W.callWith_KW0 (h₀ := X.base) I.ok.mod.kin T.o.kC hall (thn (hkw.run pos pins s σ H _ I h) fun ws s1 hh => ?_) hpl
  obtain ⟨zs, H1, I1, rz, v, rfl, hO⟩ := hh
  refine ⟨I1.kIn, ?_⟩
  rw [hks]
  cases rz with
  | @cons _ u _ us rv rn =>
    cases rn
    show wpAny _ _ (call (.ref C) [] [(vVal, u)]) _ _ _
    obtain ⟨hp, g, dr, tk', os⟩ := s1
    have hsz : hp.objs.size ≤ hp.objs.size + 1 := Nat.le_succ _
    have hn : H1 (hp.objs.size + 1) = none := I1.hok.fresh hsz
    have hq : spInit X.K [.ref (hp.objs.size + 1), v] (upd H1 (hp.objs.size + 1) (exo (hp.objs.size + 1) C none)) (fun v' H2 => v' = .non ∧ ∃ (d : Addr) (fs : List (Str × V)), H2 (hp.objs.size + 1) = some (exo (hp.objs.size + 1) C (some d)) ∧ H2 d = some (exd d fs) ∧ H1 d = none ∧ Q (.ref C) (some d) (upd (del H2 (hp.objs.size + 1)) d (.xd fs))) (fun _ _ _ => False) := by
      refine ⟨hp.objs.size + 1, v, C, rfl, T.o, T.no, upd_same, fun dx ndx nea => ⟨rfl, dx, [(vVal, v)], upd_same, by rw [upd_ne nea, upd_same], ?_, ?_⟩⟩
      · rw [upd_ne nea] at ndx
        exact ndx
      · rw [upd_ne nea] at ndx
        refine hO dx _ ndx (fun b o q => ?_) upd_same
        have nb : b ≠ hp.objs.size + 1 := fun z => by rw [z, hn] at q; cases q
        have nd : b ≠ dx := fun z => by rw [z, ndx] at q; cases q
        rw [upd_ne nd, del_ne nb, upd_ne nb, upd_ne nd, upd_ne nb]
        exact q
    have kk : ∀ b o, hp.get? b = some o → ((hp.push (PySem.W.kdv_tup [])).push (PySem.HandSPX.excO C hp.objs.size)).get? b = some o := fun b o e => Heap.get?_push_of_some _ (Heap.get?_push_of_some _ e)
    have hget : ((hp.push (PySem.W.kdv_tup [])).push (PySem.HandSPX.excO C hp.objs.size)).get? (hp.objs.size + 1) = some (PySem.HandSPX.excO C hp.objs.size) := by heap_get
    have I2 : Inv X pins σ (upd H1 (hp.objs.size + 1) (exo (hp.objs.size + 1) C none)) ⟨(hp.push (PySem.W.kdv_tup [])).push (PySem.HandSPX.excO C hp.objs.size), g, dr, tk', os⟩ :=
      I1.laid (t' := tk') (a := hp.objs.size + 1) (o := exo (hp.objs.size + 1) C none) (h' := (hp.push (PySem.W.kdv_tup [])).push (PySem.HandSPX.excO C hp.objs.size)) kk hsz (exo_ok hget)
    refine wpAny_call (PySem.CfK.call_ownK F.excBase_ValueError (fun Y => PySem.HandSPX.refsVE_contains Y bm hbm) (I1.kIn _ _ hC) (PySem.W.looks_findIn I1.kIn T.iC) (fun self => PySem.W.bind_fn I1.kIn self T.tI)
      (codeAny_mono (F1.run _ X.stack _ _ ⟨[Value.ref (hp.objs.size + 1)], [(vVal, u)]⟩ [Value.ref (hp.objs.size + 1), u] [.ref (hp.objs.size + 1), v] _ (fun _ _ _ => False) ((hr.mono (j := 1 + 1) hk).make C [] [(vVal, u)]) (I2.env0.make C [] [(vVal, u)]) (hbk _ _ _) (.cons rfl (.cons rv .nil)) hq) fun r s' hq' => ?_))
    cases r with
    | error er => exact (pass0 : Passes CX0 X _) pins σ _ _ er s' I2 hq'
    | ok fl =>
      cases fl with
      | ret u' =>
        obtain ⟨v', H2, os2, bare2, un2, hok2, rv', ev, d, fs, ea, ed, hd1, q2⟩ := hq'
        subst ev
        obtain ⟨h2, g2, d2, t2, os'⟩ := s'
        exact ⟨rv', mk_end (raises_own T.o.exC T.o.tyC) I1 hsz kk un2 hok2 os2 bare2 ea ed hd1 q2⟩
      | next => exact False.elim hq'
      | brk => exact False.elim hq'
      | cont => exact False.elim hq'
end
end Cf

namespace Cf
open PySem PySem.Spec PyProof.Rows L2 Evl
/-! ## the bag of k75 -/
def bagL (l : Addr) (left t bl : Int) : List (Key × V) := [(.inr "great", .ref l), (.inr "left", .int left), (.inr "turn", .int t), (.inr "blend", .int bl)]
def Bag (H : Hp) (bg : Addr) (n : Nat) : Prop := ∃ (l : Addr) (gs : List Int) (left t bl : Int), H bg = some (.dK (bagL l left t bl)) ∧ H l = some (.lst (gs.map V.int)) ∧ 0 ≤ t ∧ t ≤ n ∧ 0 ≤ bl ∧ bl < 2305843009213693951 ∧ gs.length ≤ 100
theorem Bag.ex {H H' : Hp} {bg : Addr} {n : Nat} (h : Bag H bg n) (e : Ex H H') : Bag H' bg n := by
  obtain ⟨l, gs, left, t, bl, a, b, c⟩ := h
  exact ⟨l, gs, left, t, bl, e _ _ a, e _ _ b, c⟩
theorem Bag.le {H : Hp} {bg : Addr} {n k : Nat} (h : Bag H bg n) (e : n ≤ k) : Bag H bg k := by
  obtain ⟨l, gs, left, t, bl, a, b, c1, c2, c3⟩ := h
  exact ⟨l, gs, left, t, bl, a, b, c1, by omega, c3⟩
def TupK (H H' : Hp) : Prop := ∀ b xs, H b = some (.tup xs) → H' b = some (.tup xs)
theorem TupK.of {H H' : Hp} (e : Ex H H') : TupK H H' := fun b xs h => e _ _ h
theorem TupK.trans {H H1 H2 : Hp} (a : TupK H H1) (b : TupK H1 H2) : TupK H H2 := fun c xs h => b c xs (a c xs h)
theorem TupK.upd {H : Hp} {p : Addr} {o u : HO} (h : H p = some u) (n : ∀ xs, u ≠ .tup xs) : TupK H (upd H p o) := fun b xs q => by
  rw [upd_ne (fun z => by rw [z, h] at q; exact n xs (Option.some.inj q))]
  exact q
def spBag (K : PySem.W.Frag) : Sp := fun vs H Q _ => ∃ (a : Addr) (ns : List Int), vs = [.ref a] ∧ SqL K H a (ns.map V.int) ∧ ns.length ≤ 63 ∧ ∀ bg H', H bg = none → Ex H H' → Bag H' bg 0 → Q (.ref bg) H'
def spBDraw : Sp := fun vs H Q _ => ∃ bg many n, vs = [.ref bg, .int many] ∧ 0 < many ∧ many.natAbs < 2 ^ 200 ∧ n ≤ 1000 ∧ Bag H bg n ∧ ∀ H' v, TupK H H' → Bag H' bg (n + 1) → 0 ≤ v → v < many → Q (.int v) H'
theorem ev_dgetK {σ : L2.St} {H : Hp} {ta : TE} {bg : Addr} {kvs : List (Key × V)} {k : Str} {v : V} (ha : Ev ta σ H (.ref bg)) (h : H bg = some (.dK kvs)) (hv : valV kvs (.inr k) = some v) : Ev (tDGet ta (tC (.str k))) σ H v := fun H1 e Q q =>
  ha H1 e _ fun H2 e2 => ⟨bg, v, rfl, by
    have g := DGet.k (k := .inr k) (e2 _ _ (e _ _ h))
    rw [hv] at g
    exact g, q H2 e2⟩
theorem s_dputK {σ : L2.St} {H : Hp} {ta tv : TE} {D : Ends} {bg : Addr} {kvs : List (Key × V)} {k : Str} {v : V} (hv : Ev tv σ H v) (ho : Ev ta σ H (.ref bg)) (h : H bg = some (.dK kvs)) (hl : kvs.length < 100000) (n : ∀ H1, Ex H H1 → D.nx σ (upd H1 bg (.dK (putK kvs (.inr k) v)))) : sDPut ta (tC (.str k)) tv D σ H :=
  hv H (Ex.refl H) _ fun H1 e1 => ho H1 e1 _ fun H2 e2 => ⟨bg, _, rfl, DPut.k (k := .inr k) (e2 _ _ (e1 _ _ h)) (sz_lt hl), n H2 (e1.trans e2)⟩
theorem q_dputK {σ : L2.St} {H : Hp} {ta tv : TE} {tz : TS} {D : Ends} {bg : Addr} {kvs : List (Key × V)} {k : Str} {v : V} (hv : Ev tv σ H v) (ho : Ev ta σ H (.ref bg)) (h : H bg = some (.dK kvs)) (hl : kvs.length < 100000) (n : ∀ H1, Ex H H1 → tz D σ (upd H1 bg (.dK (putK kvs (.inr k) v)))) : tSeq (sDPut ta (tC (.str k)) tv) tz D σ H :=
  s_dputK (D := { D with nx := tz D }) hv ho h hl n
end Cf
namespace Cf
open PySem PySem.Spec PyProof.Rows L2 Evl
def rAbs_ : List V → Hp → VK → Prop := fun xs H Q => ∃ i, xs = [.int i] ∧ Q (.int (if i < 0 then -i else i)) H
end Cf
namespace Cf
open PySem PySem.Spec PyProof.Rows L2 Evl
/-! ## exceptions made -/
def tMz (C : Addr) (ta : TA) : TE := fun σ H Q => ta σ H fun vs H1 => ∃ v, vs = [v] ∧ Out C v H1 fun cls d H' => ∀ a, H' a = none → Q (.ref a) (upd H' a (exk a cls d))
section
variable {X : Cx} {x : Str} {C : Addr} {e : Expr} {ta : TA} {p pos : Pos} {kws : List Keyword} {tk : TA}
theorem pe_mz {k : Nat} (T : XiK X.prog X.w X.K X.mg X.base x C) (hr : Room k X.A) (ha : PA X [e] ta) (hg : Gl X x) (hk : 2 ≤ k := by decide) (hdb : (x == ("__debug__" : Str)) = false := by decide)
    (he : starEach (e :: []) X.env = (false, eval e X.env) :: starEach [] X.env := by rfl) (hpl : (backTo pos (starEach [] X.env)).any (·.1) = false := by rfl) : PE X (.Call (.Name x p) [e] [] pos) (tMz C ta) :=
  pe_made (pmk_z T.xi hr ha hg hk hdb he hpl)
theorem pe_mzK {k : Nat} (T : XiK X.prog X.w X.K X.mg X.base x C) (hr : Room k X.A) (hkw : PK X kws tk) (hg : Gl X x) (hk : 2 ≤ k := by decide)
    (hall : (backToKw pos (keywordEach kws X.env)).all (·.1.isSome) = true := by rfl)
    (hks : (backToKw pos (keywordEach kws X.env)).filterMap (·.1) = [vVal] := by rfl) (hdb : (x == ("__debug__" : Str)) = false := by decide)
    (hpl : ((backTo pos (starEach [] X.env)).any (·.1) || (backToKw pos (keywordEach kws X.env)).any (·.1.isNone)) = false := by rfl) : PE X (.Call (.Name x p) [] kws pos) (tMz C tk) :=
  pe_made (pmk_zK T hr hkw hg hk hall hks hdb hpl)
end
/-- a new exception of the class C with v -/
def EvX (te : TE) (σ : L2.St) (H : Hp) (C : Addr) (v : V) : Prop := ∀ H1, Ex H H1 → ∀ Q : VK, (∀ p H2, H1 p = none → Ex H1 H2 → ExAt H2 p C v → Q (.ref p) H2) → te σ H1 Q
theorem ev_mz {σ : L2.St} {H : Hp} {te : TE} {C : Addr} {v : V} (h : Ev te σ H v) : EvX (tMz C (tCons te tNil)) σ H C v := fun H1 e Q q => h H1 e _ fun H2 e2 => ⟨v, rfl, fun d H3 nd e3 hd a na => by
  have nda : d ≠ a := fun z => by rw [z, na] at hd; exact nomatch hd
  exact q a _ (fresh_back (e2.trans e3) na) ((e2.trans e3).trans (Ex.new na)) ⟨d, upd_same, by rw [upd_ne nda]; exact hd⟩⟩
/-- (X(v), X(value=v)) -/
def PairAt (H : Hp) (p C : Addr) (v : V) : Prop := ∃ a b, H p = some (.tup [.ref a, .ref b]) ∧ ExAt H a C v ∧ ExAt H b C v
theorem PairAt.ex {H H' : Hp} {p C : Addr} {v : V} (h : PairAt H p C v) (e : Ex H H') : PairAt H' p C v := by
  obtain ⟨a, b, h1, h2, h3⟩ := h
  exact ⟨a, b, e _ _ h1, h2.ex e, h3.ex e⟩
theorem PairAt.bu {H H' : Hp} {p C l : Addr} {v : V} {xs : List V} (h : PairAt H p C v) (hl : H l = some (.lst xs)) (e : Bu l H H') : PairAt H' p C v := by
  obtain ⟨a, b, h1, h2, h3⟩ := h
  exact ⟨a, b, e _ _ (ne_of h1 hl fun z => nomatch z) h1, h2.bu hl e, h3.bu hl e⟩
theorem eu_pair {σ : L2.St} {H : Hp} {ta tb : TE} {C : Addr} {v : V} (ha : EvX ta σ H C v) (hb : EvX tb σ H C v) : ∀ H1, Ex H H1 → ∀ Q : VK, (∀ p H2, H1 p = none → Ex H1 H2 → PairAt H2 p C v → Q (.ref p) H2) → tTup (tCons ta (tCons tb tNil)) σ H1 Q := fun H1 e Q q =>
  ha H1 e _ fun a H2 na e2 h2 => hb H2 (e.trans e2) _ fun b H3 nb e3 h3 => ⟨by show 2 ≤ sizeLine; decide, fun p np => q p _ (fresh_back (e2.trans e3) np) ((e2.trans e3).trans (Ex.new np)) ⟨a, b, upd_same, (h2.ex e3).ex (Ex.new np), h3.ex (Ex.new np)⟩⟩
/-- the list of the pairs so far -/
def Mad (H : Hp) (l : Addr) (cs : List Addr) (v : V) : Prop := ∃ ps : List Addr, H l = some (.lst (ps.map V.ref)) ∧ ps.length = cs.length ∧ ∀ (j : Nat) (c : Addr), cs[j]? = some c → ∃ p, ps[j]? = some p ∧ PairAt H p c v
theorem Mad.ex {H H' : Hp} {l : Addr} {cs : List Addr} {v : V} (h : Mad H l cs v) (e : Ex H H') : Mad H' l cs v := by
  obtain ⟨ps, a, b, c⟩ := h
  refine ⟨ps, e _ _ a, b, fun j cc q => ?_⟩
  obtain ⟨p, p1, p2⟩ := c j cc q
  exact ⟨p, p1, p2.ex e⟩
theorem q_mad {K : PySem.W.Frag} {σ : L2.St} {H : Hp} {l C : Addr} {cs : List Addr} {v : V} {i : Nat} {ta tb : TE} {tz : TS} {D : Ends} (h : Mad H l cs v) (hi : σ[i]? = some (some (.ref l))) (hd : cs.length < 100000) (ha : EvX ta σ H C v) (hb : EvX tb σ H C v)
    (k : ∀ H', Bu l H H' → Mad H' l (cs ++ [C]) v → tz D σ H') : tSeq (tDrop (tBM K "list" rAppend (tVar i) (tCons (tTup (tCons ta (tCons tb tNil))) tNil))) tz D σ H := by
  obtain ⟨ps, h1, h2, h3⟩ := h
  refine drop_raw (app_raw (K := K) hi h1 ?_)
  refine eu_pair ha hb H (Ex.refl H) _ fun p H1 np e1 hp => ⟨l, ps.map V.ref, .ref p, rfl, rfl, e1 _ _ h1, sz_lt (by rw [List.length_map]; omega), ?_⟩
  have hl1 := e1 _ _ h1
  have bu : Bu l H (upd H1 l (.lst (ps.map V.ref ++ [.ref p]))) := fun c o nc q => by rw [upd_ne nc]; exact e1 _ _ q
  have bu1 : Bu l H1 (upd H1 l (.lst (ps.map V.ref ++ [.ref p]))) := fun c o nc q => by rw [upd_ne nc]; exact q
  refine k _ bu ⟨ps ++ [p], by rw [upd_same, List.map_append]; rfl, by rw [List.length_append, List.length_append, h2]; rfl, fun j cc q => ?_⟩
  by_cases hj : j < cs.length
  · rw [List.getElem?_append_left hj] at q
    obtain ⟨p2, q1, q2⟩ := h3 j cc q
    exact ⟨p2, by rw [List.getElem?_append_left (by omega)]; exact q1, q2.bu h1 bu⟩
  · rw [List.getElem?_append_right (by omega)] at q
    have hj2 : j - cs.length = 0 := by
      have := (List.getElem?_eq_some_iff.mp q).1
      simp at this
      omega
    rw [hj2] at q
    have q : C = cc := Option.some.inj q
    subst q
    exact ⟨p, by rw [List.getElem?_append_right (by omega), h2, hj2]; rfl, hp.bu hl1 bu1⟩
def spMade (cs : List Addr) : Sp := fun vs H Q _ => ∃ v, vs = [v] ∧ ∀ l H', H l = none → Ex H H' → Mad H' l cs v → Q (.ref l) H'
end Cf

namespace Cf
open PySem PySem.Spec PyProof.Rows L2 Evl
def ExE (H : Hp) (a C : Addr) : Prop := (∃ v, ExAt H a C v) ∨ H a = some (ExO (.ref C) a)
theorem ExE.ex {H H' : Hp} {a C : Addr} (h : ExE H a C) (e : Ex H H') : ExE H' a C := by
  rcases h with ⟨v, h⟩ | h
  · exact .inl ⟨v, h.ex e⟩
  · exact .inr (e _ _ h)
def rIsE2 (K : PySem.W.Frag) : List V → Hp → VK → Prop := fun xs H Q => ∃ (a D : Addr) (c : V) (cv : Value) (b : Bool), xs = [.ref a, c] ∧ ExE H a D ∧ ExcC K D ∧ (∀ u, RelV c u → u = cv) ∧ PySem.W.kitOne K (.ref D) cv = some b ∧ Q (.bl b) H
theorem call_isE2 {X : Cx} : CallR X (.builtin "isinstance") (rIsE2 X.K) := by
  intro pins s σ H xs us Q I r h
  obtain ⟨a, D, c, cv, b, rfl, hE, C, hcv, e, q⟩ := h
  rcases hE with ⟨v, dd, ea, ed⟩ | ea
  · exact call_isK pins s σ H _ us Q I r ⟨a, D, dd, _, c, cv, b, rfl, ea, ed, C, hcv, e, q⟩
  · cases r with
    | cons rx rr =>
      cases rr with
      | cons rt rr =>
        cases rr
        cases rx
        have ec := hcv _ rt
        subst ec
        obtain ⟨⟨oe, vs, ha, hz, hd, _⟩, _, _⟩ := I.hok a _ ea
        have J : PySem.W.InstAt s.heap a oe D none := ⟨ha, hz.1, by unfold PySem.W.notCls; rw [hd] <;> rfl, by rw [hz.2]; trivial⟩
        have hcl : (PySem.W.clsIn X.K D).isSome = true := by
          have := C.hd
          unfold PySem.W.hasDictIn at this
          cases q2 : PySem.W.clsIn X.K D with
          | none => rw [q2] at this; exact absurd this (by decide)
          | some _ => rfl
        exact PySem.W.kia_one (PySem.W.kitx_exc hcl C.hg C.hk C.hs C.ha C.hn C.ht C.hm) I.kIn J e (fun z => nomatch z) fun tk => ⟨.bl b, H, I.kept (t' := tk) fun _ _ z => z, rfl, q⟩
section
variable {K : PySem.W.Frag} {σ : L2.St} {H : Hp} {ta : TE} {a C c : Addr} {v : V} {b : Bool}
theorem ev_isE2 (ha : Ev ta σ H (.ref a)) (h : ExE H a C) (e : ExcC K C) (k : PySem.W.kitOne K (.ref C) (.ref c) = some b) : Ev (tCB (rIsE2 K) (tCons ta (tCons (tC (.ref c)) tNil))) σ H (.bl b) := ev_cb (ea_cons ha (ea_cons ev_c ea_nil)) fun H1 e1 Q1 q1 =>
  ⟨a, C, .ref c, .ref c, b, rfl, h.ex e1, e, fun u r => r, k, q1 H1 (Ex.refl H1)⟩
theorem ev_isE2T {n : String} (ha : Ev ta σ H (.ref a)) (h : ExE H a C) (e : ExcC K C) (k : PySem.W.kitOne K (.ref C) (.type n) = some b) : Ev (tCB (rIsE2 K) (tCons ta (tCons (tC (.ty n)) tNil))) σ H (.bl b) := ev_cb (ea_cons ha (ea_cons ev_c ea_nil)) fun H1 e1 Q1 q1 =>
  ⟨a, C, .ty n, .type n, b, rfl, h.ex e1, e, fun u r => r, k, q1 H1 (Ex.refl H1)⟩
end
def ind9 (j : Nat) : List V := (List.range 9).map fun i => V.bl (decide (V.int (i : Nat) = V.int (j : Nat)))
/-- the nine classes: what is known of them -/
structure Er10 (K : PySem.W.Frag) (mg : Str → Option Value) (c0 c1 c2 c3 c4 c5 c6 c7 c8 cE : Addr) : Prop where
  g0 : mg "InvalidModel" = some (.ref c0)
  g1 : mg "InvalidType" = some (.ref c1)
  g2 : mg "InvalidVariables" = some (.ref c2)
  g3 : mg "InvalidExpression" = some (.ref c3)
  g4 : mg "InvalidValues" = some (.ref c4)
  g5 : mg "InvalidNumber" = some (.ref c5)
  g6 : mg "NotAdmitted" = some (.ref c6)
  g7 : mg "NothingToUndo" = some (.ref c7)
  g8 : mg "Unreadable" = some (.ref c8)
  gE : mg "CastError" = some (.ref cE)
  f0 : IsF K c0 c0 c1 c2 c3 c4 c5 c6 c7 c8 true false false false false false false false false
  f1 : IsF K c1 c0 c1 c2 c3 c4 c5 c6 c7 c8 false true false false false false false false false
  f2 : IsF K c2 c0 c1 c2 c3 c4 c5 c6 c7 c8 false false true false false false false false false
  f3 : IsF K c3 c0 c1 c2 c3 c4 c5 c6 c7 c8 false false false true false false false false false
  f4 : IsF K c4 c0 c1 c2 c3 c4 c5 c6 c7 c8 false false false false true false false false false
  f5 : IsF K c5 c0 c1 c2 c3 c4 c5 c6 c7 c8 false false false false false true false false false
  f6 : IsF K c6 c0 c1 c2 c3 c4 c5 c6 c7 c8 false false false false false false true false false
  f7 : IsF K c7 c0 c1 c2 c3 c4 c5 c6 c7 c8 false false false false false false false true false
  f8 : IsF K c8 c0 c1 c2 c3 c4 c5 c6 c7 c8 false false false false false false false false true
  fE : IsF K cE c0 c1 c2 c3 c4 c5 c6 c7 c8 false false false false false false false false false
  e0 : PySem.W.kitOne K (.ref c0) (.ref cE) = some true
  e1 : PySem.W.kitOne K (.ref c1) (.ref cE) = some true
  e2 : PySem.W.kitOne K (.ref c2) (.ref cE) = some true
  e3 : PySem.W.kitOne K (.ref c3) (.ref cE) = some true
  e4 : PySem.W.kitOne K (.ref c4) (.ref cE) = some true
  e5 : PySem.W.kitOne K (.ref c5) (.ref cE) = some true
  e6 : PySem.W.kitOne K (.ref c6) (.ref cE) = some true
  e7 : PySem.W.kitOne K (.ref c7) (.ref cE) = some true
  e8 : PySem.W.kitOne K (.ref c8) (.ref cE) = some true
def spFlags (K : PySem.W.Frag) (c0 c1 c2 c3 c4 c5 c6 c7 c8 : Addr) : Sp := fun vs H Q _ => ∃ a C b0 b1 b2 b3 b4 b5 b6 b7 b8, vs = [.ref a] ∧ ExE H a C ∧ IsF K C c0 c1 c2 c3 c4 c5 c6 c7 c8 b0 b1 b2 b3 b4 b5 b6 b7 b8 ∧
  ∀ l H', H l = none → Ex H H' → H' l = some (.lst [.bl b0, .bl b1, .bl b2, .bl b3, .bl b4, .bl b5, .bl b6, .bl b7, .bl b8]) → Q (.ref l) H'
/-! ### repr of any small datum -/
def rReprA (K : PySem.W.Frag) : List V → Hp → VK → Prop := fun xs H Q => rRepr K xs H Q ∨ (xs = [.non] ∧ Q (.str "None") H) ∨ (∃ i, xs = [.int i] ∧ i.natAbs.log2 < 1920 ∧ Q (.str (toString i)) H) ∨ ∃ x, xs = [.str x] ∧ (reprText x).length ≤ sizeLine ∧ Q (.str (reprText x)) H
theorem call_reprA {X : Cx} (hG : X.A.guards = some []) (hu : X.A.units + 64 < cLine) : CallR X (.builtin "repr") (rReprA X.K) := by
  intro pins s σ H xs us Q I r h
  rcases h with h | ⟨rfl, q⟩ | ⟨i, rfl, hi, q⟩ | ⟨x, rfl, hx, q⟩
  · exact call_repr hG hu pins s σ H xs us Q I r h
  · obtain ⟨u, rfl, rx⟩ := vals1 r
    obtain rfl : u = Value.none := rx
    exact PySem.P.repr_of_none ⟨.str "None", H, I.tok _, ⟨_, rfl⟩, q⟩
  · obtain ⟨u, rfl, rx⟩ := vals1 r
    obtain ⟨t, rfl⟩ : ∃ t, u = Value.int i t := rx
    exact PySem.P.repr_of_int hi ⟨.str (toString i), H, I.tok _, ⟨_, rfl⟩, q⟩
  · obtain ⟨u, rfl, rx⟩ := vals1 r
    obtain ⟨t, rfl⟩ : ∃ t, u = Value.str x t := rx
    exact PySem.P.repr_of_str ⟨.str (reprText x), H, I.tok _, ⟨_, rfl⟩, q⟩ hx
def Rb (K : PySem.W.Frag) (H : Hp) (v : V) (t : Str) : Prop := (∃ a d, v = .ref a ∧ Dp K H (.ref a) d ∧ Sm d ∧ szD d ≤ 800 ∧ d.depth ≤ 60 ∧ t = d.shown) ∨ (v = .non ∧ t = "None") ∨ (∃ i, v = .int i ∧ i.natAbs.log2 < 1920 ∧ t = toString i) ∨ ∃ x, v = .str x ∧ (reprText x).length ≤ sizeLine ∧ t = reprText x
theorem Rb.ex {K : PySem.W.Frag} {H H' : Hp} {v : V} {t : Str} (h : Rb K H v t) (e : Ex H H') : Rb K H' v t := by
  rcases h with ⟨a, d, h1, h2, h3⟩ | h
  · exact .inl ⟨a, d, h1, dp_ex e d _ h2, h3⟩
  · exact .inr h
theorem ev_reprA {K : PySem.W.Frag} {σ : L2.St} {H : Hp} {ta : TE} {v : V} {t : Str} (ha : Ev ta σ H v) (h : Rb K H v t) : Ev (tCB (rReprA K) (tCons ta tNil)) σ H (.str t) := ev_cb (ea_cons ha ea_nil) fun H1 e1 Q q => by
  rcases h.ex e1 with ⟨a, d, rfl, h2, h3, h4, h5, rfl⟩ | ⟨rfl, rfl⟩ | ⟨i, rfl, hi, rfl⟩ | ⟨x, rfl, hx, rfl⟩
  · exact .inl ⟨a, d, rfl, h2, (sm_all d h3).1, (sm_all d h3).2.1, sm_len h3 h4, h5, q H1 (Ex.refl H1)⟩
  · exact .inr (.inl ⟨rfl, q H1 (Ex.refl H1)⟩)
  · exact .inr (.inr (.inl ⟨i, rfl, hi, q H1 (Ex.refl H1)⟩))
  · exact .inr (.inr (.inr ⟨x, rfl, hx, q H1 (Ex.refl H1)⟩))
theorem bdraw_at {σ : L2.St} {H : Hp} {ta : TA} {bg : Addr} {many : Int} {n : Nat} {E : XK} {Q : VK} (h : EvA ta σ H [.ref bg, .int many]) (m0 : 0 < many) (m1 : many.natAbs < 2 ^ 200) (hn : n ≤ 1000) (g : Bag H bg n)
    (k : ∀ H' v, TupK H H' → Bag H' bg (n + 1) → 0 ≤ v → v < many → Q (.int v) H') : tCall spBDraw [] E ta σ H Q :=
  h H (Ex.refl H) _ fun H1 e1 => ⟨bg, many, n, rfl, m0, m1, hn, g.ex e1, fun H' v t b v0 v1 => k H' v ((TupK.of e1).trans t) b v0 v1⟩
/-- lists of bools compared -/
theorem ev_neB {K : PySem.W.Frag} {σ : L2.St} {H : Hp} {ta tb : TE} {bs : List Bool} (ha : EvL ta σ H (bs.map V.bl)) (hb : EvL tb σ H (bs.map V.bl)) (hs : SeqAt.shaped (.list (bs.map PyData.bool)) = true) (he : PyData.eqv (.list (bs.map PyData.bool)) (.list (bs.map PyData.bool)) = true) : Ev (tOp (rNeD K) ta tb) σ H (.bl false) := by
  have dp : ∀ (bs : List Bool) (H1 : Hp), DpAll K H1 (bs.map V.bl) (bs.map PyData.bool) := fun bs H1 => by
    induction bs with
    | nil => exact .nil
    | cons b bs ih => exact .cons (.bl b) ih
  exact ev_neL (ds := bs.map PyData.bool) ha hb (fun H1 _ => dp bs H1) (fun H1 _ => dp bs H1) hs he
theorem ev_eqB {K : PySem.W.Frag} {σ : L2.St} {H : Hp} {ta tb : TE} {bs : List Bool} (ha : EvL ta σ H (bs.map V.bl)) (hb : EvL tb σ H (bs.map V.bl)) (hs : SeqAt.shaped (.list (bs.map PyData.bool)) = true) (he : PyData.eqv (.list (bs.map PyData.bool)) (.list (bs.map PyData.bool)) = true) : Ev (tOp (rEqD K) ta tb) σ H (.bl true) := by
  have dp : ∀ (bs : List Bool) (H1 : Hp), DpAll K H1 (bs.map V.bl) (bs.map PyData.bool) := fun bs H1 => by
    induction bs with
    | nil => exact .nil
    | cons b bs ih => exact .cons (.bl b) ih
  exact ev_opLL ha hb fun p q H1 hp hq e => fun H2 e2 Q k => ⟨.list (bs.map PyData.bool), .list (bs.map PyData.bool), .lst (sq_of (e2 _ _ hp)) (dp bs H2), .lst (sq_of (e2 _ _ hq)) (dp bs H2), hs, hs, by rw [he]; exact k H2 (Ex.refl H2)⟩
end Cf

namespace Cf
open PySem PySem.Spec PyProof.Rows L2 Evl
def topS (i : Nat) : Stmt := PySem.Challenge.pw_castforms_k75_errors_made.main.body.getD i (.Pass ⟨0, 0, 0, 0⟩)
abbrev s__law_bag : Stmt := topS 12
abbrev s__law_draw : Stmt := topS 13
abbrev s__law_made : Stmt := topS 14
abbrev s__law_flags : Stmt := topS 15
abbrev s_law : Stmt := topS 16
abbrev i_InvalidModel : Stmt := inClass (topS 2) 0
abbrev i_InvalidType : Stmt := inClass (topS 3) 0
abbrev i_InvalidVariables : Stmt := inClass (topS 4) 0
abbrev i_InvalidExpression : Stmt := inClass (topS 5) 0
abbrev i_InvalidValues : Stmt := inClass (topS 6) 0
abbrev i_InvalidNumber : Stmt := inClass (topS 7) 0
abbrev i_NotAdmitted : Stmt := inClass (topS 8) 0
abbrev i_NothingToUndo : Stmt := inClass (topS 9) 0
abbrev i_Unreadable : Stmt := inClass (topS 10) 0
section
variable {P : Program} {w : World} {K : PySem.W.Frag} {mg : Str → Option Value} {base : Heap} {f : Addr} {fd : FuncData}
theorem sc_init_InvalidModel : FnScope ["self", "value"] ["self", "value"] (defScope i_InvalidModel) := ⟨rfl, rfl, rfl, by decide +kernel, rfl, by decide +kernel, by decide +kernel⟩
theorem ok_init_InvalidModel (F : L2.Fun K "__init__" "InvalidModel.__init__" i_InvalidModel f fd) : FnOk P w K mg base CX0 1 f fd ["self", "value"] (spInit K) := by
  refine F.ok sc_init_InvalidModel (fun vs H Q E h => by obtain ⟨a, v, C, rfl, _⟩ := h; rfl) (fun cdv A outer s H vs Q E hr h => ?_)
  obtain ⟨a, v, C, rfl, hO, hno, ha, hQ⟩ := h
  refine ⟨_, pss_one (ps_ost (pv 0) (pv 1)), ?_⟩
  exact ⟨_, rfl, _, rfl, a, C, rfl, hO, hno, .inl ⟨ha, fun dx n1 n2 => hQ dx n1 n2⟩⟩

theorem sc_init_InvalidType : FnScope ["self", "value"] ["self", "value"] (defScope i_InvalidType) := ⟨rfl, rfl, rfl, by decide +kernel, rfl, by decide +kernel, by decide +kernel⟩
theorem ok_init_InvalidType (F : L2.Fun K "__init__" "InvalidType.__init__" i_InvalidType f fd) : FnOk P w K mg base CX0 1 f fd ["self", "value"] (spInit K) := by
  refine F.ok sc_init_InvalidType (fun vs H Q E h => by obtain ⟨a, v, C, rfl, _⟩ := h; rfl) (fun cdv A outer s H vs Q E hr h => ?_)
  obtain ⟨a, v, C, rfl, hO, hno, ha, hQ⟩ := h
  refine ⟨_, pss_one (ps_ost (pv 0) (pv 1)), ?_⟩
  exact ⟨_, rfl, _, rfl, a, C, rfl, hO, hno, .inl ⟨ha, fun dx n1 n2 => hQ dx n1 n2⟩⟩

theorem sc_init_InvalidVariables : FnScope ["self", "value"] ["self", "value"] (defScope i_InvalidVariables) := ⟨rfl, rfl, rfl, by decide +kernel, rfl, by decide +kernel, by decide +kernel⟩
theorem ok_init_InvalidVariables (F : L2.Fun K "__init__" "InvalidVariables.__init__" i_InvalidVariables f fd) : FnOk P w K mg base CX0 1 f fd ["self", "value"] (spInit K) := by
  refine F.ok sc_init_InvalidVariables (fun vs H Q E h => by obtain ⟨a, v, C, rfl, _⟩ := h; rfl) (fun cdv A outer s H vs Q E hr h => ?_)
  obtain ⟨a, v, C, rfl, hO, hno, ha, hQ⟩ := h
  refine ⟨_, pss_one (ps_ost (pv 0) (pv 1)), ?_⟩
  exact ⟨_, rfl, _, rfl, a, C, rfl, hO, hno, .inl ⟨ha, fun dx n1 n2 => hQ dx n1 n2⟩⟩

theorem sc_init_InvalidExpression : FnScope ["self", "value"] ["self", "value"] (defScope i_InvalidExpression) := ⟨rfl, rfl, rfl, by decide +kernel, rfl, by decide +kernel, by decide +kernel⟩
theorem ok_init_InvalidExpression (F : L2.Fun K "__init__" "InvalidExpression.__init__" i_InvalidExpression f fd) : FnOk P w K mg base CX0 1 f fd ["self", "value"] (spInit K) := by
  refine F.ok sc_init_InvalidExpression (fun vs H Q E h => by obtain ⟨a, v, C, rfl, _⟩ := h; rfl) (fun cdv A outer s H vs Q E hr h => ?_)
  obtain ⟨a, v, C, rfl, hO, hno, ha, hQ⟩ := h
  refine ⟨_, pss_one (ps_ost (pv 0) (pv 1)), ?_⟩
  exact ⟨_, rfl, _, rfl, a, C, rfl, hO, hno, .inl ⟨ha, fun dx n1 n2 => hQ dx n1 n2⟩⟩

theorem sc_init_InvalidValues : FnScope ["self", "value"] ["self", "value"] (defScope i_InvalidValues) := ⟨rfl, rfl, rfl, by decide +kernel, rfl, by decide +kernel, by decide +kernel⟩
theorem ok_init_InvalidValues (F : L2.Fun K "__init__" "InvalidValues.__init__" i_InvalidValues f fd) : FnOk P w K mg base CX0 1 f fd ["self", "value"] (spInit K) := by
  refine F.ok sc_init_InvalidValues (fun vs H Q E h => by obtain ⟨a, v, C, rfl, _⟩ := h; rfl) (fun cdv A outer s H vs Q E hr h => ?_)
  obtain ⟨a, v, C, rfl, hO, hno, ha, hQ⟩ := h
  refine ⟨_, pss_one (ps_ost (pv 0) (pv 1)), ?_⟩
  exact ⟨_, rfl, _, rfl, a, C, rfl, hO, hno, .inl ⟨ha, fun dx n1 n2 => hQ dx n1 n2⟩⟩

theorem sc_init_InvalidNumber : FnScope ["self", "value"] ["self", "value"] (defScope i_InvalidNumber) := ⟨rfl, rfl, rfl, by decide +kernel, rfl, by decide +kernel, by decide +kernel⟩
theorem ok_init_InvalidNumber (F : L2.Fun K "__init__" "InvalidNumber.__init__" i_InvalidNumber f fd) : FnOk P w K mg base CX0 1 f fd ["self", "value"] (spInit K) := by
  refine F.ok sc_init_InvalidNumber (fun vs H Q E h => by obtain ⟨a, v, C, rfl, _⟩ := h; rfl) (fun cdv A outer s H vs Q E hr h => ?_)
  obtain ⟨a, v, C, rfl, hO, hno, ha, hQ⟩ := h
  refine ⟨_, pss_one (ps_ost (pv 0) (pv 1)), ?_⟩
  exact ⟨_, rfl, _, rfl, a, C, rfl, hO, hno, .inl ⟨ha, fun dx n1 n2 => hQ dx n1 n2⟩⟩

theorem sc_init_NotAdmitted : FnScope ["self", "value"] ["self", "value"] (defScope i_NotAdmitted) := ⟨rfl, rfl, rfl, by decide +kernel, rfl, by decide +kernel, by decide +kernel⟩
theorem ok_init_NotAdmitted (F : L2.Fun K "__init__" "NotAdmitted.__init__" i_NotAdmitted f fd) : FnOk P w K mg base CX0 1 f fd ["self", "value"] (spInit K) := by
  refine F.ok sc_init_NotAdmitted (fun vs H Q E h => by obtain ⟨a, v, C, rfl, _⟩ := h; rfl) (fun cdv A outer s H vs Q E hr h => ?_)
  obtain ⟨a, v, C, rfl, hO, hno, ha, hQ⟩ := h
  refine ⟨_, pss_one (ps_ost (pv 0) (pv 1)), ?_⟩
  exact ⟨_, rfl, _, rfl, a, C, rfl, hO, hno, .inl ⟨ha, fun dx n1 n2 => hQ dx n1 n2⟩⟩

theorem sc_init_NothingToUndo : FnScope ["self", "value"] ["self", "value"] (defScope i_NothingToUndo) := ⟨rfl, rfl, rfl, by decide +kernel, rfl, by decide +kernel, by decide +kernel⟩
theorem ok_init_NothingToUndo (F : L2.Fun K "__init__" "NothingToUndo.__init__" i_NothingToUndo f fd) : FnOk P w K mg base CX0 1 f fd ["self", "value"] (spInit K) := by
  refine F.ok sc_init_NothingToUndo (fun vs H Q E h => by obtain ⟨a, v, C, rfl, _⟩ := h; rfl) (fun cdv A outer s H vs Q E hr h => ?_)
  obtain ⟨a, v, C, rfl, hO, hno, ha, hQ⟩ := h
  refine ⟨_, pss_one (ps_ost (pv 0) (pv 1)), ?_⟩
  exact ⟨_, rfl, _, rfl, a, C, rfl, hO, hno, .inl ⟨ha, fun dx n1 n2 => hQ dx n1 n2⟩⟩

theorem sc_init_Unreadable : FnScope ["self", "value"] ["self", "value"] (defScope i_Unreadable) := ⟨rfl, rfl, rfl, by decide +kernel, rfl, by decide +kernel, by decide +kernel⟩
theorem ok_init_Unreadable (F : L2.Fun K "__init__" "Unreadable.__init__" i_Unreadable f fd) : FnOk P w K mg base CX0 1 f fd ["self", "value"] (spInit K) := by
  refine F.ok sc_init_Unreadable (fun vs H Q E h => by obtain ⟨a, v, C, rfl, _⟩ := h; rfl) (fun cdv A outer s H vs Q E hr h => ?_)
  obtain ⟨a, v, C, rfl, hO, hno, ha, hQ⟩ := h
  refine ⟨_, pss_one (ps_ost (pv 0) (pv 1)), ?_⟩
  exact ⟨_, rfl, _, rfl, a, C, rfl, hO, hno, .inl ⟨ha, fun dx n1 n2 => hQ dx n1 n2⟩⟩

theorem sc__law_bag : FnScope ["script", "blend", "great", "cell"] ["script"] (defScope s__law_bag) := ⟨rfl, rfl, rfl, by decide +kernel, rfl, by decide +kernel, by decide +kernel⟩
theorem ok__law_bag (D : Df K mg "_law_bag" s__law_bag ["script"] f fd) (ca : mg "abs" = none) : FnG P w K mg base CX0 1 f fd ["script"] (spBag K) := by
  refine df_ok D sc__law_bag (fun vs H Q E h => by obtain ⟨a, ns, rfl, _⟩ := h; rfl) (fun cdv A outer s H vs Q E hG hr h => ?_)
  obtain ⟨a, ns, rfl, hS, hlen, hQ⟩ := h
  have nd := sc__law_bag.nd
  refine ⟨_, pss_cons (ps_par (i := 1) (j := 2) rfl nd rfl rfl (by decide) rfl rfl (pa_cons pe_int (pa_cons (pe_lst pa_nil) pa_nil)) (by rfl))
    (pss_cons (ps_for PassesOwn.never rfl (pi_list (pv 0)) (pg_name (i := 3) nd rfl (.inl rfl))
      (pss_cons (ps_set (i := 1) nd rfl (.inl rfl) (pe_op op_mod (pe_op op_add (pe_op op_mul (pv 1) pe_int) (pv 3)) pe_int))
      (pss_one (ps_if (pt_cmpR op_ge (pe_callB call_abs (by rfl) ca (by decide +kernel) (pa_cons (pv 3) pa_nil)) (pe_op op_pow pe_int pe_int) (nomark _))
          (pss_one (ps_expr (pe_bm PySem.F.plainAttrs_list PySem.F.slot_list_append PySem.F.type_list_append mt_append (pv 2) (pa_cons (pe_callB call_abs (by rfl) ca (by decide +kernel) (pa_cons (pv 3) pa_nil)) pa_nil)))) pss_nil))))
    (pss_one (ps_ret (pe_disp (pps_cons pe_str (pv 2) (pps_cons pe_str pe_int (pps_cons pe_str pe_int (pps_cons pe_str (pv 1) pps_nil)))) rfl rfl (by simp) (by simp))))), ?_⟩
  refine par_raw (?_ : tCons (tC _) _ _ _ _)
  refine ea_at ev_c fun H0 e0 => ?_
  refine (?_ : tCons (tLst _) _ _ _ _)
  refine ea_atL (el_lst ea_nil (by decide)) fun l H1 nl e1 hl => ⟨_, _, rfl, ?_⟩
  dsimp only [List.set]
  have nl0 : H l = none := fresh_back e0 nl
  have S1 := ex_l (e0.trans e1) hS
  refine q_forLn (a := a) (xs := ns.map V.int) (ev_var rfl) S1 (fun i σ H3 => Ex H H3 ∧ ∃ (gs : List Int) (bl : Int) (y3 : Option V), H3 l = some (.lst (gs.map V.int)) ∧ gs.length ≤ i ∧ 0 ≤ bl ∧ bl < 2305843009213693951 ∧ σ = [some (.ref a), some (.int bl), some (.ref l), y3]) ?_ ?_ ?_ ?_
  · exact fun H2 e2 => ⟨(e0.trans e1).trans e2, [], 11, none, e2 _ _ hl, Nat.le_refl _, by decide, by decide, rfl⟩
  · exact fun i σ H3 _ hp => ex_l hp.1 hS
  · intro i x σ H3 hx hp
    obtain ⟨e3, gs, bl, y3, h3, g3, b0, b1, rfl⟩ := hp
    rw [List.getElem?_map] at hx
    obtain ⟨z, hz, rfl⟩ := Option.map_eq_some_iff.mp hx
    have hi : i < 63 := by
      have := (List.getElem?_eq_some_iff.mp hz).1
      omega
    have ab : ∀ {σ : L2.St} {G : Hp}, σ[3]? = some (some (.int z)) → Ev (tCB rAbs_ (tCons (tVar 3) tNil)) σ G (.int (if z < 0 then -z else z)) := fun h => ev_cb (ea_cons (ev_var h) ea_nil) fun H1 _ Q1 q1 => ⟨z, rfl, q1 H1 (Ex.refl H1)⟩
    refine q_asg (ev_op (ev_op (ev_op (ev_var rfl) ev_c (rv_I (.inr ⟨by decide, by decide⟩))) (ev_var rfl) rv_I0) ev_c (rv_I (by decide))) fun H4 e4 => ?_
    have m0 := Int.emod_nonneg (bl * 1000003 + z) (show (2305843009213693951 : Int) ≠ 0 by decide)
    have m1 := Int.emod_lt_of_pos (bl * 1000003 + z) (show (0 : Int) < 2305843009213693951 by decide)
    refine s_when (et_test (ev_op (ab (σ := [some (.ref a), some (.int ((bl * 1000003 + z) % 2305843009213693951)), some (.ref l), some (.int z)]) rfl) (ev_op ev_c ev_c (rv_I ⟨by decide, by decide, by decide⟩)) rv_I0)) (fun hb H5 e5 => ?_) (fun hb H5 e5 => ?_)
    · refine s_app (xs := gs.map V.int) (e5 _ _ (e4 _ _ h3)) (ev_var rfl) (ab rfl) (by rw [List.length_map]; omega) fun H6 e6 => ?_
      exact ⟨Ex.mut (((e3.trans e4).trans e5).trans e6) nl0, gs ++ [if z < 0 then -z else z], _, _, by rw [upd_same, List.map_append]; rfl, by rw [List.length_append]; simp only [List.length_cons, List.length_nil]; omega, m0, m1, rfl⟩
    · exact ⟨(e3.trans e4).trans e5, gs, _, _, e5 _ _ (e4 _ _ h3), by omega, m0, m1, rfl⟩
  · intro σ H3 hp
    obtain ⟨e3, gs, bl, y3, h3, g3, b0, b1, rfl⟩ := hp
    rw [List.length_map] at g3
    refine ret_raw (?_ : tDisp _ _ _ _)
    intro p np
    have el : Ex H3 (upd H3 p (.dK [])) := Ex.new np
    refine ⟨_, rfl, _, rfl, upd_same, bagL l 0 0 bl, rfl, (by show 4 ≤ 15; decide), ?_⟩
    have em : mergeK [] (bagL l 0 0 bl) = bagL l 0 0 bl := rfl
    rw [em, upd_upd]
    have e2 : Ex H3 (upd H3 p (.dK (bagL l 0 0 bl))) := Ex.new np
    exact hQ p _ (fresh_back e3 np) (e3.trans e2) ⟨l, gs, 0, 0, bl, upd_same, e2 _ _ h3, by decide, by decide, b0, b1, by omega⟩

theorem sc__law_draw : FnScope ["bag", "many", "drawn", "turn", "mixed"] ["bag", "many"] (defScope s__law_draw) := ⟨rfl, rfl, rfl, by decide +kernel, rfl, by decide +kernel, by decide +kernel⟩
theorem ok__law_draw (D : Df K mg "_law_draw" s__law_draw ["bag", "many"] f fd) (cle : mg "len" = none) : FnG P w K mg base CX0 1 f fd ["bag", "many"] spBDraw := by
  refine df_ok D sc__law_draw (fun vs H Q E h => by obtain ⟨bg, many, n, rfl, _⟩ := h; rfl) (fun cdv A outer s H vs Q E hG hr h => ?_)
  obtain ⟨bg, many, n, rfl, m0, m1, hn, hB, hQ⟩ := h
  have nd := sc__law_draw.nd
  have hu : A.units + 3 + 64 < cLine := hr.units
  have hu1 : A.units + 3 + 1 < cLine := by omega
  refine ⟨_, pss_cut (ps_if (PW.pt (pw_and (pt_cmpR op_lt (pe_dget hu1 (pv 0) pe_str (fun _ _ => rfl)) (pv 1) (nomark _)) (pw_and1 (pt_cmpR op_gt (pe_callB call_len_seq (by rfl) cle PySem.boot_len (pa_cons (pe_dget hu1 (pv 0) pe_str (fun _ _ => rfl)) pa_nil)) pe_int (nomark _)))))
      (pss_one (ps_dput hu1 (pv 0) pe_str (pe_bm PySem.F.plainAttrs_list PySem.F.slot_list_pop PySem.F.type_list_pop mt_popAt (pe_dget hu1 (pv 0) pe_str (fun _ _ => rfl)) (pa_cons pe_int pa_nil)) (by rfl))) pss_nil)
    (pss_cons (ps_if (pt_cmpR op_ge (pe_dget hu1 (pv 0) pe_str (fun _ _ => rfl)) (pv 1) (nomark _))
      (pss_cons (ps_set (i := 2) nd rfl (.inl rfl) (pe_op op_mod (pe_dget hu1 (pv 0) pe_str (fun _ _ => rfl)) (pv 1)))
      (pss_cons (ps_dput hu1 (pv 0) pe_str (pe_op op_fdivW (pe_dget hu1 (pv 0) pe_str (fun _ _ => rfl)) (pv 1)) (by rfl))
      (pss_one (ps_ret (pv 2))))) pss_nil)
    (pss_cons (ps_daug hu1 (pv 0) pe_str pe_int in_add (fun _ _ _ => rfl))
    (pss_cons (ps_set (i := 3) nd rfl (.inl rfl) (pe_dget hu1 (pv 0) pe_str (fun _ _ => rfl)))
    (pss_cons (ps_set (i := 4) nd rfl (.inl rfl) (pe_op op_add (pe_op op_mulW (pe_op op_add (pe_dget hu1 (pv 0) pe_str (fun _ _ => rfl)) (pe_op op_mul pe_int (pv 3))) (pe_op op_powW (pe_op op_add (pv 3) pe_int) pe_int)) (pe_op op_mul pe_int (pv 3))))
    (pss_one (ps_ret (pe_op op_mod (pe_op op_fdivW (pe_op op_mod (pe_op op_powW (pe_op op_mod (pv 4) pe_int) pe_int) (pe_op op_add (pe_op op_pow pe_int pe_int) pe_int)) pe_int) (pv 1)))))))), ?_⟩
  have gr : ∀ {l : Addr} {left t bl : Int}, valV (bagL l left t bl) (.inr "great") = some (.ref l) := rfl
  have le : ∀ {l : Addr} {left t bl : Int}, valV (bagL l left t bl) (.inr "left") = some (.int left) := rfl
  have tu : ∀ {l : Addr} {left t bl : Int}, valV (bagL l left t bl) (.inr "turn") = some (.int t) := rfl
  have be : ∀ {l : Addr} {left t bl : Int}, valV (bagL l left t bl) (.inr "blend") = some (.int bl) := rfl
  have pl : ∀ {l : Addr} {left t bl x : Int}, putK (bagL l left t bl) (.inr "left") (.int x) = bagL l x t bl := rfl
  have pt : ∀ {l : Addr} {left t bl x : Int}, putK (bagL l left t bl) (.inr "turn") (.int x) = bagL l left x bl := rfl
  have nt : ∀ {xs : List V} {kvs : List (Key × V)}, HO.dK kvs ≠ .tup xs := fun z => nomatch z
  refine q_cut (M := fun σ' H' => TupK H H' ∧ Bag H' bg n ∧ σ' = [some (.ref bg), some (.int many), none, none, none]) ?_ ?_
  · obtain ⟨l, gs, left, t, bl, hb, hl, t0, t1, b0, b1, g100⟩ := hB
    refine s_if (b := decide (left < many) && decide (((gs.map V.int).length : Int) > 0)) (et_and (et_test (ev_op (ev_dgetK (ev_var rfl) hb le) (ev_var rfl) rv_I0)) fun _ => et_test (ev_op (ev_len (ev_dgetK (ev_var rfl) hb gr) (sq_of hl)) ev_c rv_I0)) (fun hc H1 e1 => ?_) (fun hc H1 e1 => ⟨TupK.of e1, ⟨l, gs, left, t, bl, e1 _ _ hb, e1 _ _ hl, t0, t1, b0, b1, g100⟩, rfl⟩)
    rw [Bool.and_eq_true] at hc
    have hg := of_decide_eq_true hc.2
    match gs, hl, hg, g100 with
    | g :: gs, hl, _, g100 =>
      have nlb : l ≠ bg := fun z => by rw [z, hb] at hl; exact nomatch hl
      refine (?_ : tBM _ _ _ _ _ _ _ _)
      refine (ev_dgetK (ta := tVar 0) (ev_var rfl) (e1 _ _ hb) gr) H1 (Ex.refl H1) _ fun H2 e2 => ?_
      have hl2 := e2 _ _ (e1 _ _ hl)
      have hb2 := e2 _ _ (e1 _ _ hb)
      refine ⟨.inl ⟨rfl, _, sq_of hl2⟩, l, _, 0, 0, .int g, rfl, rfl, hl2, by decide, by decide, ?_, rfl, ?_⟩
      · simp [seqIndex?]
      have hb3 : (upd H2 l (.lst (((g :: gs).map V.int).eraseIdx 0))) bg = some (.dK (bagL l left t bl)) := by rw [upd_ne (Ne.symm nlb)]; exact hb2
      refine ⟨_, rfl, bg, _, rfl, DPut.k (k := .inr "left") hb3 (by show 4 < sizeLine; decide), ?_⟩
      rw [pl]
      refine ⟨(TupK.of (e1.trans e2)).trans ((TupK.upd hl2 fun _ z => nomatch z).trans (TupK.upd hb3 fun _ => nt)), ⟨l, gs, g, t, bl, upd_same, by rw [upd_ne nlb, upd_same]; rfl, t0, t1, b0, b1, by simp only [List.length_cons] at g100; omega⟩, rfl⟩
  · intro σ' H1 hM
    obtain ⟨k1, hB1, rfl⟩ := hM
    obtain ⟨l, gs, left, t, bl, hb, hl, t0, t1, b0, b1, g100⟩ := hB1
    have ntb : ∀ {G : Hp} {kvs : List (Key × V)} {o : HO}, G bg = some (.dK kvs) → TupK G (upd G bg o) := fun h => TupK.upd h fun _ => nt
    refine q_when (b := decide (left ≥ many)) (et_test (ev_op (ev_dgetK (ev_var rfl) hb le) (ev_var rfl) rv_I0)) (fun hc H2 e2 => ?_) (fun hc H2 e2 => ?_)
    · have hb2 := e2 _ _ hb
      refine q_asg (ev_op (ev_dgetK (ev_var rfl) hb2 le) (ev_var rfl) (rv_I m0)) fun H3 e3 => ?_
      have hb3 := e3 _ _ hb2
      refine q_dputK (v := .int (left / many)) (ev_op (ev_dgetK (ev_var rfl) hb3 le) (ev_var rfl) (rv_I ⟨m0, log_small m1⟩)) (ev_var rfl) hb3 (by show 4 < 100000; decide) fun H4 e4 => ?_
      rw [pl]
      have hl4 := e4 _ _ (e3 _ _ (e2 _ _ hl))
      have nlb : l ≠ bg := fun z => by rw [z, hb] at hl; exact nomatch hl
      refine s_ret (ev_var rfl) fun H5 e5 => ?_
      refine hQ H5 _ ((k1.trans (TupK.of ((e2.trans e3).trans e4))).trans ((ntb (e4 _ _ hb3)).trans (TupK.of e5))) ⟨l, gs, left / many, t, bl, e5 _ _ upd_same, e5 _ _ (by rw [upd_ne nlb]; exact hl4), t0, by omega, b0, b1, g100⟩ (Int.emod_nonneg _ (by omega)) (Int.emod_lt_of_pos _ m0)
    · have hb2 := e2 _ _ hb
      have nlb : l ≠ bg := fun z => by rw [z, hb] at hl; exact nomatch hl
      refine (?_ : sDAug _ _ _ _ _ _ _)
      refine ⟨_, rfl, bg, .int t, rfl, ?_, t, 1, rfl, rfl, upd H2 bg (.dK (putK (bagL l left t bl) (.inr "turn") (.int (t + 1)))), DPut.k (k := .inr "turn") hb2 (by show 4 < sizeLine; decide), ?_⟩
      · have g := DGet.k (k := .inr "turn") hb2
        rw [tu] at g
        exact g
      rw [pt]
      have hb3 : (upd H2 bg (.dK (bagL l left (t + 1) bl))) bg = some (.dK (bagL l left (t + 1) bl)) := upd_same
      have hl3 : (upd H2 bg (.dK (bagL l left (t + 1) bl))) l = some (.lst (gs.map V.int)) := by rw [upd_ne nlb]; exact e2 _ _ hl
      have k3 : TupK H (upd H2 bg (.dK (bagL l left (t + 1) bl))) := (k1.trans (TupK.of e2)).trans (ntb hb2)
      generalize upd H2 bg (.dK (bagL l left (t + 1) bl)) = H3 at hb3 hl3 k3 ⊢
      show tSeq _ _ _ _ _
      refine q_asg (ev_dgetK (ev_var rfl) hb3 tu) fun H4 e4 => ?_
      have hb4 := e4 _ _ hb3
      have s1 : (bl + 17 * (t + 1)).natAbs < 2 ^ 62 := by omega
      have s2 : (t + 1 + 29).natAbs < 2 ^ 11 := by omega
      have s3 : ((t + 1 + 29) ^ (2 : Int).toNat).natAbs < 2 ^ 23 := by
        have e : (t + 1 + 29) ^ (2 : Int).toNat = (t + 1 + 29) * (t + 1 + 29) := by
          show (t + 1 + 29) ^ 2 = _
          rw [Int.pow_succ, Int.pow_succ, Int.pow_zero, Int.one_mul]
        rw [e, Int.natAbs_mul]
        have : (t + 1 + 29).natAbs ≤ 2048 := by omega
        have h2 := Nat.mul_le_mul this this
        omega
      refine q_asg (ev_op (ev_op (ev_op (ev_dgetK (ev_var rfl) hb4 be) (ev_op ev_c (ev_var rfl) (rv_I (.inl ⟨by decide, by decide⟩))) rv_I0) (ev_op (ev_op (ev_var rfl) ev_c rv_I0) ev_c (rv_I ⟨by decide, by decide, by have := PySem.Flt.log2_lt_of (by decide : 0 < 11) s2; omega⟩)) (rv_I (wide_mul s1 s3 (by decide) (by decide) (by decide)))) (ev_op ev_c (ev_var rfl) (rv_I (.inl ⟨by decide, by decide⟩))) rv_I0) fun H5 e5 => ?_
      have hb5 := e5 _ _ hb4
      generalize (bl + 17 * (t + 1)) * (t + 1 + 29) ^ (2 : Int).toNat + 7919 * (t + 1) = mx
      have x0 := Int.emod_nonneg mx (show (2305843009213693951 : Int) ≠ 0 by decide)
      have x1 := Int.emod_lt_of_pos mx (show (0 : Int) < 2305843009213693951 by decide)
      have s4 : (mx % 2305843009213693951).natAbs < 2 ^ 62 := by omega
      refine s_ret (ev_op (ev_op (ev_op (ev_op (ev_op (ev_var rfl) ev_c (rv_I (by decide))) ev_c (rv_I (small_log (by decide) s4 (by decide)))) (ev_op (ev_op ev_c ev_c (rv_I ⟨by decide, by decide, by decide⟩)) ev_c rv_I0) (rv_I (by decide))) ev_c (rv_I ⟨by decide, by decide⟩)) (ev_var rfl) (rv_I m0)) fun H6 e6 => ?_
      exact hQ H6 _ (k3.trans (TupK.of ((e4.trans e5).trans e6))) ⟨l, gs, left, t + 1, bl, e6 _ _ hb5, e6 _ _ (e5 _ _ (e4 _ _ hl3)), by omega, by omega, b0, b1, g100⟩ (Int.emod_nonneg _ (by omega)) (Int.emod_lt_of_pos _ m0)

theorem sc__law_made : FnScope ["thing", "found"] ["thing"] (defScope s__law_made) := ⟨rfl, rfl, rfl, by decide +kernel, rfl, by decide +kernel, by decide +kernel⟩
theorem ok__law_made {c0 c1 c2 c3 c4 c5 c6 c7 c8 : Addr} (D : Df K mg "_law_made" s__law_made ["thing"] f fd) (x0 : XiK P w K mg base "InvalidModel" c0) (x1 : XiK P w K mg base "InvalidType" c1) (x2 : XiK P w K mg base "InvalidVariables" c2) (x3 : XiK P w K mg base "InvalidExpression" c3) (x4 : XiK P w K mg base "InvalidValues" c4) (x5 : XiK P w K mg base "InvalidNumber" c5) (x6 : XiK P w K mg base "NotAdmitted" c6) (x7 : XiK P w K mg base "NothingToUndo" c7) (x8 : XiK P w K mg base "Unreadable" c8) :
    FnG P w K mg base CX0 3 f fd ["thing"] (spMade [c0, c1, c2, c3, c4, c5, c6, c7, c8]) := by
  refine df_ok D sc__law_made (fun vs H Q E h => by obtain ⟨v, rfl, _⟩ := h; rfl) (fun cdv A outer s H vs Q E hG hr h => ?_)
  obtain ⟨v, rfl, hQ⟩ := h
  have nd := sc__law_made.nd
  refine ⟨_, pss_cons (ps_set (i := 1) nd rfl (.inl rfl) (pe_lst (pa_cons (pe_tup (pa_cons (pe_mz x0 hr (pa_cons (pv 0) pa_nil) rfl) (pa_cons (pe_mzK x0 hr (pk_cons (pv 0) pk_nil) rfl) pa_nil))) (pa_cons (pe_tup (pa_cons (pe_mz x1 hr (pa_cons (pv 0) pa_nil) rfl) (pa_cons (pe_mzK x1 hr (pk_cons (pv 0) pk_nil) rfl) pa_nil))) pa_nil))))
    (pss_cons (ps_expr (pe_bm PySem.F.plainAttrs_list PySem.F.slot_list_append PySem.F.type_list_append mt_append (pv 1) (pa_cons (pe_tup (pa_cons (pe_mz x2 hr (pa_cons (pv 0) pa_nil) rfl) (pa_cons (pe_mzK x2 hr (pk_cons (pv 0) pk_nil) rfl) pa_nil))) pa_nil)))
    (pss_cons (ps_expr (pe_bm PySem.F.plainAttrs_list PySem.F.slot_list_append PySem.F.type_list_append mt_append (pv 1) (pa_cons (pe_tup (pa_cons (pe_mz x3 hr (pa_cons (pv 0) pa_nil) rfl) (pa_cons (pe_mzK x3 hr (pk_cons (pv 0) pk_nil) rfl) pa_nil))) pa_nil)))
    (pss_cons (ps_expr (pe_bm PySem.F.plainAttrs_list PySem.F.slot_list_append PySem.F.type_list_append mt_append (pv 1) (pa_cons (pe_tup (pa_cons (pe_mz x4 hr (pa_cons (pv 0) pa_nil) rfl) (pa_cons (pe_mzK x4 hr (pk_cons (pv 0) pk_nil) rfl) pa_nil))) pa_nil)))
    (pss_cons (ps_expr (pe_bm PySem.F.plainAttrs_list PySem.F.slot_list_append PySem.F.type_list_append mt_append (pv 1) (pa_cons (pe_tup (pa_cons (pe_mz x5 hr (pa_cons (pv 0) pa_nil) rfl) (pa_cons (pe_mzK x5 hr (pk_cons (pv 0) pk_nil) rfl) pa_nil))) pa_nil)))
    (pss_cons (ps_expr (pe_bm PySem.F.plainAttrs_list PySem.F.slot_list_append PySem.F.type_list_append mt_append (pv 1) (pa_cons (pe_tup (pa_cons (pe_mz x6 hr (pa_cons (pv 0) pa_nil) rfl) (pa_cons (pe_mzK x6 hr (pk_cons (pv 0) pk_nil) rfl) pa_nil))) pa_nil)))
    (pss_cons (ps_expr (pe_bm PySem.F.plainAttrs_list PySem.F.slot_list_append PySem.F.type_list_append mt_append (pv 1) (pa_cons (pe_tup (pa_cons (pe_mz x7 hr (pa_cons (pv 0) pa_nil) rfl) (pa_cons (pe_mzK x7 hr (pk_cons (pv 0) pk_nil) rfl) pa_nil))) pa_nil)))
    (pss_cons (ps_expr (pe_bm PySem.F.plainAttrs_list PySem.F.slot_list_append PySem.F.type_list_append mt_append (pv 1) (pa_cons (pe_tup (pa_cons (pe_mz x8 hr (pa_cons (pv 0) pa_nil) rfl) (pa_cons (pe_mzK x8 hr (pk_cons (pv 0) pk_nil) rfl) pa_nil))) pa_nil)))
    (pss_one (ps_ret (pv 1)))))))))), ?_⟩
  refine q_raw (lst_raw (?_ : tCons (tTup _) _ _ _ _))
  refine eu_pair (ev_mz (ev_var rfl)) (ev_mz (ev_var rfl)) H (Ex.refl H) _ fun p0 H1 n0 e1 h1 => ?_
  refine (?_ : tCons (tTup _) _ _ _ _)
  refine eu_pair (ev_mz (ev_var rfl)) (ev_mz (ev_var rfl)) H1 (Ex.refl H1) _ fun p1 H2 n1 e2 h2 => ⟨by show 2 ≤ sizeLine; decide, fun l nl => ?_⟩
  have eN : Ex H2 (upd H2 l (.lst [.ref p0, .ref p1])) := Ex.new nl
  have k2 : Mad (upd H2 l (.lst [.ref p0, .ref p1])) l [c0, c1] v := ⟨[p0, p1], upd_same, rfl, fun j cc q => by
    match j, q with
    | 0, q =>
      cases (Option.some.inj q)
      exact ⟨p0, rfl, (h1.ex e2).ex eN⟩
    | 1, q =>
      cases (Option.some.inj q)
      exact ⟨p1, rfl, h2.ex eN⟩⟩
  have eH : Ex H (upd H2 l (.lst [.ref p0, .ref p1])) := (e1.trans e2).trans eN
  have hlN : H l = none := fresh_back (e1.trans e2) nl
  generalize upd H2 l (.lst [.ref p0, .ref p1]) = G2 at k2 eH ⊢
  dsimp only [List.set]
  refine q_mad k2 rfl (by simp) (ev_mz (ev_var rfl)) (ev_mz (ev_var rfl)) fun G3 u3 k3 => ?_
  refine q_mad k3 rfl (by simp) (ev_mz (ev_var rfl)) (ev_mz (ev_var rfl)) fun G4 u4 k4 => ?_
  refine q_mad k4 rfl (by simp) (ev_mz (ev_var rfl)) (ev_mz (ev_var rfl)) fun G5 u5 k5 => ?_
  refine q_mad k5 rfl (by simp) (ev_mz (ev_var rfl)) (ev_mz (ev_var rfl)) fun G6 u6 k6 => ?_
  refine q_mad k6 rfl (by simp) (ev_mz (ev_var rfl)) (ev_mz (ev_var rfl)) fun G7 u7 k7 => ?_
  refine q_mad k7 rfl (by simp) (ev_mz (ev_var rfl)) (ev_mz (ev_var rfl)) fun G8 u8 k8 => ?_
  refine q_mad k8 rfl (by simp) (ev_mz (ev_var rfl)) (ev_mz (ev_var rfl)) fun G9 u9 k9 => ?_
  refine s_ret (ev_var rfl) fun G10 e10 => hQ l G10 hlN (fun c o q => ?_) (k9.ex e10)
  have nc : c ≠ l := fun z => by rw [z, hlN] at q; cases q
  exact e10 _ _ (u9 _ _ nc (u8 _ _ nc (u7 _ _ nc (u6 _ _ nc (u5 _ _ nc (u4 _ _ nc (u3 _ _ nc (eH _ _ q))))))))

theorem sc__law_flags : FnScope ["e", "flags"] ["e"] (defScope s__law_flags) := ⟨rfl, rfl, rfl, by decide +kernel, rfl, by decide +kernel, by decide +kernel⟩
theorem ok__law_flags {c0 c1 c2 c3 c4 c5 c6 c7 c8 cE : Addr} (D : Df K mg "_law_flags" s__law_flags ["e"] f fd) (E9 : Er10 K mg c0 c1 c2 c3 c4 c5 c6 c7 c8 cE) (cis : mg "isinstance" = none) : FnG P w K mg base CX0 1 f fd ["e"] (spFlags K c0 c1 c2 c3 c4 c5 c6 c7 c8) := by
  refine df_ok D sc__law_flags (fun vs H Q E h => by obtain ⟨a, C, b0, b1, b2, b3, b4, b5, b6, b7, b8, rfl, _⟩ := h; rfl) (fun cdv A outer s H vs Q E hG hr h => ?_)
  obtain ⟨a, C, b0, b1, b2, b3, b4, b5, b6, b7, b8, rfl, hE, F, hQ⟩ := h
  have nd := sc__law_flags.nd
  refine ⟨_, pss_cons (ps_set (i := 1) nd rfl (.inl rfl) (pe_lst (pa_cons (pe_callB call_isE2 (by rfl) cis (by decide +kernel) (pa_cons (pv 0) (pa_cons (pe_glob (v := .ref c0) rfl E9.g0 rfl) pa_nil))) (pa_cons (pe_callB call_isE2 (by rfl) cis (by decide +kernel) (pa_cons (pv 0) (pa_cons (pe_glob (v := .ref c1) rfl E9.g1 rfl) pa_nil))) (pa_cons (pe_callB call_isE2 (by rfl) cis (by decide +kernel) (pa_cons (pv 0) (pa_cons (pe_glob (v := .ref c2) rfl E9.g2 rfl) pa_nil))) pa_nil)))))
    (pss_cons (ps_expr (pe_bm PySem.F.plainAttrs_list PySem.F.slot_list_extend PySem.F.type_list_extend mt_extend (pv 1) (pa_cons (pe_lst (pa_cons (pe_callB call_isE2 (by rfl) cis (by decide +kernel) (pa_cons (pv 0) (pa_cons (pe_glob (v := .ref c3) rfl E9.g3 rfl) pa_nil))) (pa_cons (pe_callB call_isE2 (by rfl) cis (by decide +kernel) (pa_cons (pv 0) (pa_cons (pe_glob (v := .ref c4) rfl E9.g4 rfl) pa_nil))) (pa_cons (pe_callB call_isE2 (by rfl) cis (by decide +kernel) (pa_cons (pv 0) (pa_cons (pe_glob (v := .ref c5) rfl E9.g5 rfl) pa_nil))) pa_nil)))) pa_nil)))
    (pss_cons (ps_expr (pe_bm PySem.F.plainAttrs_list PySem.F.slot_list_extend PySem.F.type_list_extend mt_extend (pv 1) (pa_cons (pe_lst (pa_cons (pe_callB call_isE2 (by rfl) cis (by decide +kernel) (pa_cons (pv 0) (pa_cons (pe_glob (v := .ref c6) rfl E9.g6 rfl) pa_nil))) (pa_cons (pe_callB call_isE2 (by rfl) cis (by decide +kernel) (pa_cons (pv 0) (pa_cons (pe_glob (v := .ref c7) rfl E9.g7 rfl) pa_nil))) (pa_cons (pe_callB call_isE2 (by rfl) cis (by decide +kernel) (pa_cons (pv 0) (pa_cons (pe_glob (v := .ref c8) rfl E9.g8 rfl) pa_nil))) pa_nil)))) pa_nil)))
    (pss_one (ps_ret (pv 1))))), ?_⟩
  have il : ∀ {σ : L2.St} {H' : Hp} {c d e : Addr} {x y z : Bool}, σ[0]? = some (some (.ref a)) → ExE H' a C → PySem.W.kitOne K (.ref C) (.ref c) = some x → PySem.W.kitOne K (.ref C) (.ref d) = some y → PySem.W.kitOne K (.ref C) (.ref e) = some z →
      EvL (tLst (tCons (tCB (rIsE2 K) (tCons (tVar 0) (tCons (tC (.ref c)) tNil))) (tCons (tCB (rIsE2 K) (tCons (tVar 0) (tCons (tC (.ref d)) tNil))) (tCons (tCB (rIsE2 K) (tCons (tVar 0) (tCons (tC (.ref e)) tNil))) tNil)))) σ H' [.bl x, .bl y, .bl z] :=
    fun h0 he k1 k2 k3 => el_lst (ea_cons (ev_isE2 (ev_var h0) he F.e k1) (ea_cons (ev_isE2 (ev_var h0) he F.e k2) (ea_cons (ev_isE2 (ev_var h0) he F.e k3) ea_nil))) (by show 3 ≤ 100000; decide)
  refine q_asgL (il rfl hE F.k0 F.k1 F.k2) fun l H1 n1 e1 h1 => ?_
  have x1 := hE.ex e1
  have stay : ∀ {G G' : Hp} {xs ys : List V}, ExE G a C → G l = some (.lst xs) → Ex G G' → ExE (upd G' l (.lst ys)) a C := fun {G G' xs ys} h hl e => by
    have bu : Bu l G (upd G' l (.lst ys)) := fun c o nc q => by rw [upd_ne nc]; exact e _ _ q
    rcases h with ⟨v, h⟩ | h
    · exact .inl ⟨v, h.bu hl bu⟩
    · exact .inr (bu _ _ (ne_of h hl fun z => by
        have z' : HO.ext _ = HO.lst _ := z
        cases z') h)
  refine drop_raw ⟨_, rfl, .inl ⟨rfl, _, sq_of h1⟩, ?_⟩
  refine ea_atL (il rfl x1 F.k3 F.k4 F.k5) fun m H2 n2 e2 h2 => ⟨l, m, _, _, rfl, rfl, e2 _ _ h1, h2, by show 3 + 3 ≤ sizeLine; decide, ?_⟩
  have x2 := stay (ys := [.bl b0, .bl b1, .bl b2] ++ [.bl b3, .bl b4, .bl b5]) x1 h1 e2
  have h2' : (upd H2 l (.lst ([.bl b0, .bl b1, .bl b2] ++ [.bl b3, .bl b4, .bl b5]))) l = some (.lst [.bl b0, .bl b1, .bl b2, .bl b3, .bl b4, .bl b5]) := upd_same
  have eH2 : Ex H (upd H2 l (.lst ([.bl b0, .bl b1, .bl b2] ++ [.bl b3, .bl b4, .bl b5]))) := Ex.mut (e1.trans e2) n1
  generalize upd H2 l (.lst ([.bl b0, .bl b1, .bl b2] ++ [.bl b3, .bl b4, .bl b5])) = G2 at x2 h2' eH2 ⊢
  refine drop_raw ⟨_, rfl, .inl ⟨rfl, _, sq_of h2'⟩, ?_⟩
  refine ea_atL (il rfl x2 F.k6 F.k7 F.k8) fun m2 H3 n3 e3 h3 => ⟨l, m2, _, _, rfl, rfl, e3 _ _ h2', h3, by show 6 + 3 ≤ sizeLine; decide, ?_⟩
  refine s_ret (ev_var rfl) fun H4 e4 => hQ l H4 n1 ((Ex.mut (eH2.trans e3) n1).trans e4) (e4 _ _ upd_same)

theorem sc_law : FnScope ["script", "bag", "turn", "thing", "made", "place", "e", "spot"] ["script"] (defScope s_law) := ⟨rfl, rfl, rfl, by decide +kernel, rfl, by decide +kernel, by decide +kernel⟩
theorem ok_law {c0 c1 c2 c3 c4 c5 c6 c7 c8 cE : Addr} (D : Df K mg "law" s_law ["script"] f fd) (E9 : Er10 K mg c0 c1 c2 c3 c4 c5 c6 c7 c8 cE) (qE : PySem.W.excIn K cE [.type "ValueError", .type "Exception", .type "BaseException", .type "object"] "ValueError.__new__" = true) (kE : PySem.W.keepIn K (.ref cE) = true)
    (cb : Cl P w K mg base 1 "_law_bag" ["script"] (spBag K)) (cd : Cl P w K mg base 1 "_law_draw" ["bag", "many"] spBDraw) (cm : Cl P w K mg base 3 "_law_made" ["thing"] (spMade [c0, c1, c2, c3, c4, c5, c6, c7, c8])) (cf : Cl P w K mg base 1 "_law_flags" ["e"] (spFlags K c0 c1 c2 c3 c4 c5 c6 c7 c8))
    (cra : mg "range" = none) (cmi : mg "min" = none) (cle : mg "len" = none) (crp : mg "repr" = none) (cis : mg "isinstance" = none) (cve : mg "ValueError" = none) : FnG P w K mg base CX0 4 f fd ["script"] (spLaw K) := by
  refine df_ok D sc_law (fun vs H Q E h => by obtain ⟨a, ns, rfl, _⟩ := h; rfl) (fun cdv A outer s H vs Q E hG hr h => ?_)
  obtain ⟨a, ns, rfl, hS, hlen, hQ⟩ := h
  have nd := sc_law.nd
  have hu : A.units + 3 + 64 < cLine := hr.units
  refine ⟨_, pss_cons (ps_set (i := 1) nd rfl (.inl rfl) (pe_cl cb hG hr rfl (pa_cons (pv 0) pa_nil)))
    (pss_cons (ps_for PassesOwn.never rfl (pi_range1 (by rfl) cra (pa_cons (pe_op op_add pe_int (pe_callB (call_min2 rfl) (by rfl) cmi (by decide +kernel) (pa_cons pe_int (pa_cons (pe_callB call_len_seq (by rfl) cle PySem.boot_len (pa_cons (pv 0) pa_nil)) pa_nil)))) pa_nil)) (pg_name (i := 2) nd rfl (.inl rfl))
      (pss_cut (ps_set (i := 3) nd rfl (.inl rfl) (pe_ix ix_tup (pe_tup (pa_cons pe_non (pa_cons (pe_tup pa_nil) (pa_cons pe_str (pa_cons (pe_cl cd hG hr rfl (pa_cons (pv 1) (pa_cons (pe_op op_pow pe_int pe_int) pa_nil))) (pa_cons (pe_tup (pa_cons pe_str (pa_cons pe_str pa_nil))) (pa_cons (pe_tup (pa_cons pe_int (pa_cons pe_int pa_nil))) (pa_cons (pe_un un_neg pe_int) pa_nil))))))))
          (pe_cl cd hG hr rfl (pa_cons (pv 1) (pa_cons pe_int pa_nil))) (fun _ _ => rfl)))
      (pss_cons (ps_set (i := 4) nd rfl (.inl rfl) (pe_cl cm hG hr rfl (pa_cons (pv 3) pa_nil)))
      (pss_one (ps_for PassesOwn.never rfl (pi_range1 (by rfl) cra (pa_cons pe_int pa_nil)) (pg_name (i := 5) nd rfl (.inr rfl))
        (pss_one (ps_for PassesOwn.never rfl (pi_tup (pe_ix ix_list (pv 4) (pv 5) (fun _ _ => rfl))) (pg_name (i := 6) nd rfl (.inl rfl))
          (pss_cons (ps_if (PW.pt (pw_or (pt_cmpR op_ne (pe_callB (call_reprA hG hu) (by rfl) crp (by decide +kernel) (pa_cons (pe_xk (n := vVal) (pv 6)) pa_nil)) (pe_callB (call_reprA hG hu) (by rfl) crp (by decide +kernel) (pa_cons (pv 3) pa_nil)) (nomark _))
              (pw_or (pt_not (pt_val (pe_callB call_isE2 (by rfl) cis (by decide +kernel) (pa_cons (pv 6) (pa_cons (pe_glob (v := .ref cE) rfl E9.gE rfl) pa_nil)))))
              (pw_or1 (pt_not (pt_val (pe_callB call_isE2 (by rfl) cis (by decide +kernel) (pa_cons (pv 6) (pa_cons (pe_bltn (v := .ty "ValueError") (by rfl) cve (by decide +kernel) rfl) pa_nil))))))))) (pss_one (ps_ret pe_bl)) pss_nil)
          (pss_one (ps_if (pt_cmpR (op_neD hu) (pe_cl cf hG hr rfl (pa_cons (pv 6) pa_nil)) (pe_lc (own := [("spot", 7)]) (g := gName 7) rfl nd (pi_range1 (by rfl) cra (pa_cons pe_int pa_nil)) (blkOk_by (N := ["script", "bag", "turn", "thing", "made", "place", "e", "spot"]) (sc := defScope s_law) (by decide +kernel))
              (fun _ _ _ _ _ => pg_name (i := 7) nd rfl (Or.inl rfl)) (fun _ _ _ _ _ => pts_nil) (fun _ _ _ _ _ => pe_cmpR op_eq (pv 7) (pv 5) (nomark _))) (nomark _)) (pss_one (ps_ret pe_bl)) pss_nil))))))))))
    (pss_one (ps_ret (pe_cmpR (op_eqD hu) (pe_cl cf hG hr rfl (pa_cons (pe_exc1 PySem.F.excBase_ValueError qE E9.gE kE rfl pe_str) pa_nil)) (pe_op op_rep (pe_lst (pa_cons pe_bl pa_nil)) pe_int) (nomark _))))), ?_⟩
  have flg : ∀ {σ : L2.St} {G : Hp} {ae C : Addr} {b0 b1 b2 b3 b4 b5 b6 b7 b8 : Bool}, σ[6]? = some (some (.ref ae)) → ExE G ae C → IsF K C c0 c1 c2 c3 c4 c5 c6 c7 c8 b0 b1 b2 b3 b4 b5 b6 b7 b8 → EvL (tCall (spFlags K c0 c1 c2 c3 c4 c5 c6 c7 c8) [] E0 (tCons (tVar 6) tNil)) σ G ([b0, b1, b2, b3, b4, b5, b6, b7, b8].map V.bl) := fun {σ G ae C b0 b1 b2 b3 b4 b5 b6 b7 b8} h6 hE F G1 e Q1 q1 =>
    ⟨_, h6, ae, C, b0, b1, b2, b3, b4, b5, b6, b7, b8, rfl, hE.ex e, F, fun l G2 n e2 h2 => q1 l G2 n e2 h2⟩
  refine ⟨_, rfl, a, ns, rfl, hS, hlen, fun bg H1 n1 e1 g1 => ?_⟩
  dsimp only [gName, List.set]
  have s1 : SqL K H1 a (ns.map V.int) := ex_l e1 hS
  refine q_forR1 (n := 4 + (if (ns.length : Int) < 8 then (ns.length : Int) else 8)) (ea_cons (ev_op ev_c (ev_cb (vs := [.int 8, .int ((ns.map V.int).length : Nat)]) (ea_cons ev_c (ea_cons (ev_cb (ea_cons (ev_var rfl) ea_nil) fun H2 e2 Q1 q1 => ⟨a, _, rfl, .inl (ex_l e2 s1), q1 H2 (Ex.refl H2)⟩) ea_nil))
      fun H2 e2 Q1 q1 => ⟨_, _, rfl, by rw [List.length_map]; exact q1 H2 (Ex.refl H2)⟩) rv_I0) ea_nil) (by split <;> omega)
    (fun i σ H2 => Bag H2 bg (2 * i) ∧ ∃ (y2 y3 y4 y5 y6 : Option V), σ = [some (.ref a), some (.ref bg), y2, y3, y4, y5, y6, none]) ?_ ?_ ?_
  · exact fun H2 e2 => ⟨g1.ex e2, none, none, none, none, none, rfl⟩
  · intro i σ H2 hi hp
    obtain ⟨g2, y2, y3, y4, y5, y6, rfl⟩ := hp
    have hi16 : i < 16 := by
      split at hi <;> omega
    dsimp only [List.set]
    refine q_cut (M := fun σ' H' => ∃ (v : V) (t : Str), Rb K H' v t ∧ Bag H' bg (2 * i + 2) ∧ σ' = [some (.ref a), some (.ref bg), some (.int (i : Int)), some v, y4, y5, y6, none]) ?_ ?_
    · refine (?_ : tOp _ _ _ _ _ _)
      refine op_raw (tup_raw (ea_at ev_c fun G1 f1 => ea_atU (eu_tup ea_nil (by decide)) fun q0 G2 m2 f2 k2 => ea_at ev_c fun G3 f3 => ?_))
      refine bdraw_at (many := 10 ^ (20 : Int).toNat) (n := 2 * i) (ea_cons (ev_var rfl) (ea_cons (ev_op ev_c ev_c (rv_I ⟨by decide, by decide, by decide⟩)) ea_nil)) (by decide) (by decide) (by omega) (g2.ex ((f1.trans f2).trans f3)) fun G4 dv t4 b4 d0 d1 => ?_
      refine ea_atU (eu_tup (ea_cons ev_c (ea_cons ev_c ea_nil)) (by decide)) fun q1 G5 m5 f5 k5 => ea_atU (eu_tup (ea_cons ev_c (ea_cons ev_c ea_nil)) (by decide)) fun q2 G6 m6 f6 k6 => ea_at (ev_un ev_c ru_neg) fun G7 f7 => ⟨by show 7 ≤ sizeLine; decide, fun qt nt => ?_⟩
      have eN : Ex G7 (upd G7 qt (.tup [.non, .ref q0, .str "text", .int dv, .ref q1, .ref q2, .int (-1)])) := Ex.new nt
      refine bdraw_at (many := 7) (n := 2 * i + 1) (ea_cons (ev_var rfl) (ea_cons ev_c ea_nil)) (by decide) (by decide) (by omega) (b4.ex (((f5.trans f6).trans f7).trans eN)) fun G9 w t9 b9 w0 w1 => ?_
      have hqt := t9 _ _ (upd_same (H := G7) (a := qt) (o := .tup [.non, .ref q0, .str "text", .int dv, .ref q1, .ref q2, .int (-1)]))
      have hq0 := t9 _ _ (eN _ _ (f7 _ _ (f6 _ _ (f5 _ _ (t4 _ _ (f3 _ _ k2))))))
      have hq1 := t9 _ _ (eN _ _ (f7 _ _ (f6 _ _ k5)))
      have hq2 := t9 _ _ (eN _ _ (f7 _ _ k6))
      have hw : w = 0 ∨ w = 1 ∨ w = 2 ∨ w = 3 ∨ w = 4 ∨ w = 5 ∨ w = 6 := by omega
      rcases hw with rfl | rfl | rfl | rfl | rfl | rfl | rfl
      · exact ⟨qt, _, 0, _, rfl, rfl, st_of hqt, atI_nat (j := 0) rfl, .non, "None", .inr (.inl ⟨rfl, rfl⟩), b9, rfl⟩
      · exact ⟨qt, _, 1, _, rfl, rfl, st_of hqt, atI_nat (j := 1) rfl, .ref q0, _, .inl ⟨q0, .tuple [], rfl, .tup (st_of hq0) .nil, trivial, by decide, by decide, rfl⟩, b9, rfl⟩
      · exact ⟨qt, _, 2, _, rfl, rfl, st_of hqt, atI_nat (j := 2) rfl, .str "text", _, .inr (.inr (.inr ⟨"text", rfl, by decide +kernel, rfl⟩)), b9, rfl⟩
      · refine ⟨qt, _, 3, _, rfl, rfl, st_of hqt, atI_nat (j := 3) rfl, .int dv, _, .inr (.inr (.inl ⟨dv, rfl, ?_, rfl⟩)), b9, rfl⟩
        have d2 : dv < 100000000000000000000 := d1
        have hlt : dv.natAbs < 2 ^ 70 := by omega
        have := PySem.Flt.log2_lt_of (by decide : 0 < 70) hlt
        omega
      · exact ⟨qt, _, 4, _, rfl, rfl, st_of hqt, atI_nat (j := 4) rfl, .ref q1, _, .inl ⟨q1, .tuple [.str "variable", .str "x"], rfl, .tup (st_of hq1) (.cons (.str _) (.cons (.str _) .nil)), ⟨⟨by decide, by decide⟩, ⟨by decide, by decide⟩, trivial⟩, by decide, by decide, rfl⟩, b9, rfl⟩
      · exact ⟨qt, _, 5, _, rfl, rfl, st_of hqt, atI_nat (j := 5) rfl, .ref q2, _, .inl ⟨q2, .tuple [.int 0, .int 1], rfl, .tup (st_of hq2) (.cons (.int _) (.cons (.int _) .nil)), ⟨by show (0 : Int).natAbs < 2 ^ 140; decide, by show (1 : Int).natAbs < 2 ^ 140; decide, trivial⟩, by decide, by decide, rfl⟩, b9, rfl⟩
      · exact ⟨qt, _, 6, _, rfl, rfl, st_of hqt, atI_nat (j := 6) rfl, .int (-1), _, .inr (.inr (.inl ⟨-1, rfl, by decide, rfl⟩)), b9, rfl⟩
    intro σ' H3 hM
    obtain ⟨v, t, rb, b3, rfl⟩ := hM
    refine q_raw ⟨_, rfl, v, rfl, fun l H4 nl e4 hm => ?_⟩
    dsimp only [List.set]
    have rb4 := rb.ex e4
    have b4 := b3.ex e4
    obtain ⟨ps, hps, hlen9, hall⟩ := hm
    refine s_forR1 (n := 9) (ea_cons ev_c ea_nil) (by decide) (fun j σ G => Ex H4 G ∧ ∃ (y5 y6 : Option V), σ = [some (.ref a), some (.ref bg), some (.int (i : Int)), some v, some (.ref l), y5, y6, none]) ?_ ?_ ?_
    · exact fun G e => ⟨e, _, _, rfl⟩
    · intro j σ G hj hp
      obtain ⟨eG, y5', y6', rfl⟩ := hp
      dsimp only [List.set]
      have one : ∀ (c : Addr) (b0 b1 b2 b3 b4 b5 b6 b7 b8 : Bool), [c0, c1, c2, c3, c4, c5, c6, c7, c8][j]? = some c → IsF K c c0 c1 c2 c3 c4 c5 c6 c7 c8 b0 b1 b2 b3 b4 b5 b6 b7 b8 → PySem.W.kitOne K (.ref c) (.ref cE) = some true →
          given 9 (fun _ => true) (fun k => .bl (decide (V.int (k : Nat) = V.int (j : Nat)))) = [b0, b1, b2, b3, b4, b5, b6, b7, b8].map V.bl → SeqAt.shaped (.list ([b0, b1, b2, b3, b4, b5, b6, b7, b8].map PyData.bool)) = true → PyData.eqv (.list ([b0, b1, b2, b3, b4, b5, b6, b7, b8].map PyData.bool)) (.list ([b0, b1, b2, b3, b4, b5, b6, b7, b8].map PyData.bool)) = true →
          tFor (iTup K (tOp (rIxL K) (tVar 4) (tVar 5))) (gName 6) (tSeq (tIfS (tOr (tTest (tOp rNe (tCB (rReprA K) (tCons (tXk K vVal (tVar 6)) tNil)) (tCB (rReprA K) (tCons (tVar 3) tNil)))) (tOr (tNot (tB (tCB (rIsE2 K) (tCons (tVar 6) (tCons (tC (.ref cE)) tNil))))) (tNot (tB (tCB (rIsE2 K) (tCons (tVar 6) (tCons (tC (.ty "ValueError")) tNil))))))) (tRet (tC (.bl false))) tNext)
            (tIfS (tTest (tOp (rNeD K) (tCall (spFlags K c0 c1 c2 c3 c4 c5 c6 c7 c8) [] E0 (tCons (tVar 6) tNil)) (tLc (iRng1 (tCons (tC (.int 9)) tNil)) (gName 7) tYes (tOp rEq (tVar 7) (tVar 5)) [7]))) (tRet (tC (.bl false))) tNext))
            { nx := fun σ G => Ex H4 G ∧ ∃ (y5 y6 : Option V), σ = [some (.ref a), some (.ref bg), some (.int (i : Int)), some v, some (.ref l), y5, y6, none], rt := Q } [some (.ref a), some (.ref bg), some (.int (i : Int)), some v, some (.ref l), some (.int (j : Int)), y6', none] G := by
        intro c b0 b1 b2 b3 b4 b5 b6 b7 b8 hc F kE hind hsh heq
        obtain ⟨p, hp, hP⟩ := hall j c hc
        have hP := hP.ex eG
        obtain ⟨x0, x1, hpt, X0, X1⟩ := hP
        refine s_forT (a := p) (xs := [.ref x0, .ref x1]) (ev_op (ev_var rfl) (ev_var rfl) (rv_ixL (sq_of (eG _ _ hps)) (atI_nat (by rw [List.getElem?_map, hp]; rfl)))) (st_of hpt) (fun k σ G2 => Ex G G2 ∧ ∃ (y6 : Option V), σ = [some (.ref a), some (.ref bg), some (.int (i : Int)), some v, some (.ref l), some (.int (j : Int)), y6, none]) ?_ ?_ ?_ ?_
        · exact fun G2 e2 => ⟨e2, _, rfl⟩
        · exact fun k σ G2 _ hp => st_of (hp.1 _ _ hpt)
        · intro k x σ G2 hx hp
          obtain ⟨eG2, y6'', rfl⟩ := hp
          obtain ⟨ae, rfl, hX⟩ : ∃ ae, x = .ref ae ∧ ExAt G2 ae c v := by
            match k, hx with
            | 0, hx => exact ⟨x0, (Option.some.inj hx).symm, X0.ex eG2⟩
            | 1, hx => exact ⟨x1, (Option.some.inj hx).symm, X1.ex eG2⟩
          dsimp only [gName, List.set]
          have rb2 := (rb4.ex eG).ex eG2
          refine q_when (b := false) (et_is (et_or (et_test (ev_op (ev_reprA (ev_xk (ev_var rfl) hX F.e F.no) rb2) (ev_reprA (ev_var rfl) rb2) (rv_ne rfl))) fun _ => et_or (et_not (et_B (ev_isE2 (ev_var rfl) (.inl ⟨v, hX⟩) F.e kE))) fun _ => et_not (et_B (ev_isE2T (ev_var rfl) (.inl ⟨v, hX⟩) F.e F.kv))) ?_) (fun z => nomatch z) (fun _ G3 e3 => ?_)
          · rw [decide_eq_true (p := V.str t = V.str t) rfl]
            rfl
          refine s_when (b := false) (et_test (ev_neB (bs := [b0, b1, b2, b3, b4, b5, b6, b7, b8]) (flg rfl (.inl ⟨v, hX.ex e3⟩) F) (by
            rw [← hind]
            exact el_lcR1 (n := 9) (fun _ => true) (fun k => .bl (decide (V.int (k : Nat) = V.int (j : Nat)))) (ea_cons ev_c ea_nil) (by decide) (fun x => rfl) (fun k H1 _ _ => fun H2 _ Q2 q2 => q2 H2 (Ex.refl H2)) (fun k H1 _ _ _ => ev_op (ev_var rfl) (ev_var rfl) (rv_eq rfl))) hsh heq)) (fun z => nomatch z) (fun _ G4 e4' => ?_)
          exact ⟨(eG2.trans e3).trans e4', _, rfl⟩
        · intro σ G2 hp
          obtain ⟨eG2, y6'', rfl⟩ := hp
          exact ⟨eG.trans eG2, _, _, rfl⟩
      have hj9 : j < 9 := by omega
      match j, hj9, one with
      | 0, _, one => exact one _ _ _ _ _ _ _ _ _ _ rfl E9.f0 E9.e0 rfl (by decide +kernel) (by decide +kernel)
      | 1, _, one => exact one _ _ _ _ _ _ _ _ _ _ rfl E9.f1 E9.e1 rfl (by decide +kernel) (by decide +kernel)
      | 2, _, one => exact one _ _ _ _ _ _ _ _ _ _ rfl E9.f2 E9.e2 rfl (by decide +kernel) (by decide +kernel)
      | 3, _, one => exact one _ _ _ _ _ _ _ _ _ _ rfl E9.f3 E9.e3 rfl (by decide +kernel) (by decide +kernel)
      | 4, _, one => exact one _ _ _ _ _ _ _ _ _ _ rfl E9.f4 E9.e4 rfl (by decide +kernel) (by decide +kernel)
      | 5, _, one => exact one _ _ _ _ _ _ _ _ _ _ rfl E9.f5 E9.e5 rfl (by decide +kernel) (by decide +kernel)
      | 6, _, one => exact one _ _ _ _ _ _ _ _ _ _ rfl E9.f6 E9.e6 rfl (by decide +kernel) (by decide +kernel)
      | 7, _, one => exact one _ _ _ _ _ _ _ _ _ _ rfl E9.f7 E9.e7 rfl (by decide +kernel) (by decide +kernel)
      | 8, _, one => exact one _ _ _ _ _ _ _ _ _ _ rfl E9.f8 E9.e8 rfl (by decide +kernel) (by decide +kernel)
    · intro σ G hp
      obtain ⟨eG, y5', y6', rfl⟩ := hp
      exact ⟨(b4.ex eG).le (by omega), _, _, _, _, _, rfl⟩
  · intro σ H2 hp
    obtain ⟨g2, y2, y3, y4, y5, y6, rfl⟩ := hp
    refine s_ret (ev_eqB (bs := List.replicate 9 false) (fun G1 e Q1 q1 => fun x nx => ⟨x, cE, false, false, false, false, false, false, false, false, false, rfl, .inr upd_same, E9.fE, fun l G2 n e2 h2 => q1 l G2 (fresh_back (Ex.new nx) n) ((Ex.new nx).trans e2) h2⟩) (el_rep (k := 9) (el_lst (ea_cons ev_c ea_nil) (by decide)) ev_c (by decide)) (by decide +kernel) (by decide +kernel)) fun H3 e3 => hQ H3

end
theorem df_mk {K : PySem.W.Frag} {h : Heap} {mg : Str → Option Value} {x : Str} {st : Stmt} {ps : List Str} {f : Addr} {oc : Value} {od an : Option Addr} {sl : Array (Option Value)} {kV dc pm cd ct : Value} (X : K.In h) (G : h.Ns mainGlobals mg)
    (a : PySem.W.nsIn K mainGlobals x = some (some (.ref f))) (l : K.lookup f = some ⟨oc, od, .func (PySem.W.fnOf x x (defArgs st) (defBody st) (defScope st) .none kV dc pm an cd ct), sl⟩) (c : PySem.W.codeIn K cd x = true) (k : PySem.W.keepIn K (.ref f) = true)
    (hb : ∀ (kV doc pm : Value) (an : Option Addr) (cdv ct : Value) (us : List Value), us.length = ps.length → bindArgs (PySem.W.fnOf x x (defArgs st) (defBody st) (defScope st) .none kV doc pm an cdv ct) ⟨us, []⟩ = pure (ps.zip us)) :
    Df K mg x st ps f (PySem.W.fnOf x x (defArgs st) (defBody st) (defScope st) .none kV dc pm an cd ct) :=
  ⟨fun_mk l c k, PySem.W.mg_of X G a, (fun_mk l c k).binds hb⟩
theorem ct_mk {K : PySem.W.Frag} {h : Heap} {mg : Str → Option Value} {x : Str} {xs : List V} {q : Addr} {od : Option Addr} {its : Array Value} {m : Nat} {sl : Array (Option Value)} (X : K.In h) (G : h.Ns mainGlobals mg)
    (a : PySem.W.nsIn K mainGlobals x = some (some (.ref q))) (l : K.lookup q = some ⟨.type "tuple", od, .seq its m, sl⟩) (v : Vals xs its.toList) (z : xs.length ≤ 1000) : CT K mg x xs :=
  ⟨q, PySem.W.mg_of X G a, fun H => .inr ⟨_, its, m, l, rfl, rfl, by
    have e := v.length
    have s := sizeLine_eq
    have e2 : its.toList.length = its.size := Array.length_toList
    omega, v⟩⟩
theorem ci_mk {K : PySem.W.Frag} {h : Heap} {mg : Str → Option Value} {x : Str} {i : Int} {t : Tok} (X : K.In h) (G : h.Ns mainGlobals mg) (a : PySem.W.nsIn K mainGlobals x = some (some (.int i t))) : CI mg x i := ⟨t, PySem.W.mg_of X G a⟩
theorem all_mk {Pr : Program} {w : World} {K : PySem.W.Frag} {h : Heap} {mg : Str → Option Value} {fa : Addr} (X : K.In h) (G : h.Ns mainGlobals mg) (hfa : mg "law" = some (.ref fa))
    {f0 : Addr} {oc0 kV0 dc0 pm0 cd0 ct0 : Value} {od0 an0 : Option Addr} {sl0 : Array (Option Value)}
    {f1 : Addr} {oc1 kV1 dc1 pm1 cd1 ct1 : Value} {od1 an1 : Option Addr} {sl1 : Array (Option Value)}
    {f2 : Addr} {oc2 kV2 dc2 pm2 cd2 ct2 : Value} {od2 an2 : Option Addr} {sl2 : Array (Option Value)}
    {f3 : Addr} {oc3 kV3 dc3 pm3 cd3 ct3 : Value} {od3 an3 : Option Addr} {sl3 : Array (Option Value)}
    {f4 : Addr} {oc4 kV4 dc4 pm4 cd4 ct4 : Value} {od4 an4 : Option Addr} {sl4 : Array (Option Value)}
    {xc0 xc1 xc2 xc3 xc4 xc5 xc6 xc7 xc8 xcE : Addr}
    {xn0 xq0 : Str} {xN0 xf0 : Addr} {xbs0 xbm0 xsub0 : List Value} {xsn0 : List Str} {xab0 : Bool} {xcol0 : Option Bool} {xdd0 : Option Addr} {xm00 xm10 xm20 xm30 xm50 : Option Value} {ioc0 ikV0 idc0 ipm0 icd0 ict0 : Value} {iod0 ian0 : Option Addr} {isl0 : Array (Option Value)}
    {xn1 xq1 : Str} {xN1 xf1 : Addr} {xbs1 xbm1 xsub1 : List Value} {xsn1 : List Str} {xab1 : Bool} {xcol1 : Option Bool} {xdd1 : Option Addr} {xm01 xm11 xm21 xm31 xm51 : Option Value} {ioc1 ikV1 idc1 ipm1 icd1 ict1 : Value} {iod1 ian1 : Option Addr} {isl1 : Array (Option Value)}
    {xn2 xq2 : Str} {xN2 xf2 : Addr} {xbs2 xbm2 xsub2 : List Value} {xsn2 : List Str} {xab2 : Bool} {xcol2 : Option Bool} {xdd2 : Option Addr} {xm02 xm12 xm22 xm32 xm52 : Option Value} {ioc2 ikV2 idc2 ipm2 icd2 ict2 : Value} {iod2 ian2 : Option Addr} {isl2 : Array (Option Value)}
    {xn3 xq3 : Str} {xN3 xf3 : Addr} {xbs3 xbm3 xsub3 : List Value} {xsn3 : List Str} {xab3 : Bool} {xcol3 : Option Bool} {xdd3 : Option Addr} {xm03 xm13 xm23 xm33 xm53 : Option Value} {ioc3 ikV3 idc3 ipm3 icd3 ict3 : Value} {iod3 ian3 : Option Addr} {isl3 : Array (Option Value)}
    {xn4 xq4 : Str} {xN4 xf4 : Addr} {xbs4 xbm4 xsub4 : List Value} {xsn4 : List Str} {xab4 : Bool} {xcol4 : Option Bool} {xdd4 : Option Addr} {xm04 xm14 xm24 xm34 xm54 : Option Value} {ioc4 ikV4 idc4 ipm4 icd4 ict4 : Value} {iod4 ian4 : Option Addr} {isl4 : Array (Option Value)}
    {xn5 xq5 : Str} {xN5 xf5 : Addr} {xbs5 xbm5 xsub5 : List Value} {xsn5 : List Str} {xab5 : Bool} {xcol5 : Option Bool} {xdd5 : Option Addr} {xm05 xm15 xm25 xm35 xm55 : Option Value} {ioc5 ikV5 idc5 ipm5 icd5 ict5 : Value} {iod5 ian5 : Option Addr} {isl5 : Array (Option Value)}
    {xn6 xq6 : Str} {xN6 xf6 : Addr} {xbs6 xbm6 xsub6 : List Value} {xsn6 : List Str} {xab6 : Bool} {xcol6 : Option Bool} {xdd6 : Option Addr} {xm06 xm16 xm26 xm36 xm56 : Option Value} {ioc6 ikV6 idc6 ipm6 icd6 ict6 : Value} {iod6 ian6 : Option Addr} {isl6 : Array (Option Value)}
    {xn7 xq7 : Str} {xN7 xf7 : Addr} {xbs7 xbm7 xsub7 : List Value} {xsn7 : List Str} {xab7 : Bool} {xcol7 : Option Bool} {xdd7 : Option Addr} {xm07 xm17 xm27 xm37 xm57 : Option Value} {ioc7 ikV7 idc7 ipm7 icd7 ict7 : Value} {iod7 ian7 : Option Addr} {isl7 : Array (Option Value)}
    {xn8 xq8 : Str} {xN8 xf8 : Addr} {xbs8 xbm8 xsub8 : List Value} {xsn8 : List Str} {xab8 : Bool} {xcol8 : Option Bool} {xdd8 : Option Addr} {xm08 xm18 xm28 xm38 xm58 : Option Value} {ioc8 ikV8 idc8 ipm8 icd8 ict8 : Value} {iod8 ian8 : Option Addr} {isl8 : Array (Option Value)}
    (a0 : PySem.W.nsIn K mainGlobals "_law_bag" = some (some (.ref f0)))
    (l0 : K.lookup f0 = some ⟨oc0, od0, .func (PySem.W.fnOf "_law_bag" "_law_bag" (defArgs s__law_bag) (defBody s__law_bag) (defScope s__law_bag) .none kV0 dc0 pm0 an0 cd0 ct0), sl0⟩)
    (c0 : PySem.W.codeIn K cd0 "_law_bag" = true)
    (k0 : PySem.W.keepIn K (.ref f0) = true)
    (a1 : PySem.W.nsIn K mainGlobals "_law_draw" = some (some (.ref f1)))
    (l1 : K.lookup f1 = some ⟨oc1, od1, .func (PySem.W.fnOf "_law_draw" "_law_draw" (defArgs s__law_draw) (defBody s__law_draw) (defScope s__law_draw) .none kV1 dc1 pm1 an1 cd1 ct1), sl1⟩)
    (c1 : PySem.W.codeIn K cd1 "_law_draw" = true)
    (k1 : PySem.W.keepIn K (.ref f1) = true)
    (a2 : PySem.W.nsIn K mainGlobals "_law_made" = some (some (.ref f2)))
    (l2 : K.lookup f2 = some ⟨oc2, od2, .func (PySem.W.fnOf "_law_made" "_law_made" (defArgs s__law_made) (defBody s__law_made) (defScope s__law_made) .none kV2 dc2 pm2 an2 cd2 ct2), sl2⟩)
    (c2 : PySem.W.codeIn K cd2 "_law_made" = true)
    (k2 : PySem.W.keepIn K (.ref f2) = true)
    (a3 : PySem.W.nsIn K mainGlobals "_law_flags" = some (some (.ref f3)))
    (l3 : K.lookup f3 = some ⟨oc3, od3, .func (PySem.W.fnOf "_law_flags" "_law_flags" (defArgs s__law_flags) (defBody s__law_flags) (defScope s__law_flags) .none kV3 dc3 pm3 an3 cd3 ct3), sl3⟩)
    (c3 : PySem.W.codeIn K cd3 "_law_flags" = true)
    (k3 : PySem.W.keepIn K (.ref f3) = true)
    (a4 : PySem.W.nsIn K mainGlobals "law" = some (some (.ref f4)))
    (l4 : K.lookup f4 = some ⟨oc4, od4, .func (PySem.W.fnOf "law" "law" (defArgs s_law) (defBody s_law) (defScope s_law) .none kV4 dc4 pm4 an4 cd4 ct4), sl4⟩)
    (c4 : PySem.W.codeIn K cd4 "law" = true)
    (k4 : PySem.W.keepIn K (.ref f4) = true)
    (xg0 : PySem.W.nsIn K mainGlobals "InvalidModel" = some (some (.ref xc0)))
    (xg1 : PySem.W.nsIn K mainGlobals "InvalidType" = some (some (.ref xc1)))
    (xg2 : PySem.W.nsIn K mainGlobals "InvalidVariables" = some (some (.ref xc2)))
    (xg3 : PySem.W.nsIn K mainGlobals "InvalidExpression" = some (some (.ref xc3)))
    (xg4 : PySem.W.nsIn K mainGlobals "InvalidValues" = some (some (.ref xc4)))
    (xg5 : PySem.W.nsIn K mainGlobals "InvalidNumber" = some (some (.ref xc5)))
    (xg6 : PySem.W.nsIn K mainGlobals "NotAdmitted" = some (some (.ref xc6)))
    (xg7 : PySem.W.nsIn K mainGlobals "NothingToUndo" = some (some (.ref xc7)))
    (xg8 : PySem.W.nsIn K mainGlobals "Unreadable" = some (some (.ref xc8)))
    (xgE : PySem.W.nsIn K mainGlobals "CastError" = some (some (.ref xcE)))
    (xe1 : PySem.W.subIn K (.ref xcE) (.type "BaseException") = some true)
    (xe2 : PySem.W.hasDictIn K xcE = true)
    (xe3 : PySem.W.typeIn K (.ref xcE) = some (.type "type"))
    (yn : PySem.W.specialIn K (.builtin "object.__class__") "__get__" = some (some (.builtin "getset_descriptor.__get__")))
    (yt : PySem.W.takesIn K (.builtin "object.__class__") = some true)
    (xl0 : K.lookup xc0 = some (excClassObj xn0 xq0 xc0 xN0 xbs0 xbm0 true xsn0 xsub0 xab0 xcol0 xdd0 xm00 xm10 xm20 xm30 xm50 "ValueError.__new__"))
    (xr0 : PySem.HandSPX.refsVE xbm0 = true)
    (xsa0 : PySem.W.findIn K (.ref xc0) "__setattr__" = some (some (.builtin "object.__setattr__")))
    (xex0 : PySem.W.subIn K (.ref xc0) (.type "BaseException") = some true)
    (xty0 : PySem.W.typeIn K (.ref xc0) = some (.type "type"))
    (xk0 : PySem.W.keepIn K (.ref xc0) = true)
    (xga0 : PySem.W.findIn K (.ref xc0) "__getattribute__" = some (some (.builtin "BaseException.__getattribute__")))
    (xgt0 : PySem.W.findIn K (.ref xc0) "__getattr__" = some none)
    (xhd0 : PySem.W.hasDictIn K xc0 = true)
    (xcl0 : PySem.W.findIn K (.ref xc0) "__class__" = some (some (.builtin "object.__class__")))
    (xmo0 : PySem.W.mroIn K xc0 (.type "object") = some true)
    (xno0 : PySem.W.findIn K (.ref xc0) "value" = some none)
    (xi0 : PySem.W.findIn K (.ref xc0) "__init__" = some (some (.ref xf0)))
    (xti0 : PySem.W.typeIn K (.ref xf0) = some (.type "function"))
    (xfl0 : K.lookup xf0 = some ⟨ioc0, iod0, .func (PySem.W.fnOf "__init__" "InvalidModel.__init__" (defArgs i_InvalidModel) (defBody i_InvalidModel) (defScope i_InvalidModel) .none ikV0 idc0 ipm0 ian0 icd0 ict0), isl0⟩)
    (xfc0 : PySem.W.codeIn K icd0 "InvalidModel.__init__" = true)
    (xfk0 : PySem.W.keepIn K (.ref xf0) = true)
    (xkE0 : PySem.W.kitOne K (.ref xc0) (.ref xcE) = some true)
    (xkt00 : PySem.W.kitOne K (.ref xc0) (.ref xc0) = some true)
    (xkt01 : PySem.W.kitOne K (.ref xc0) (.ref xc1) = some false)
    (xkt02 : PySem.W.kitOne K (.ref xc0) (.ref xc2) = some false)
    (xkt03 : PySem.W.kitOne K (.ref xc0) (.ref xc3) = some false)
    (xkt04 : PySem.W.kitOne K (.ref xc0) (.ref xc4) = some false)
    (xkt05 : PySem.W.kitOne K (.ref xc0) (.ref xc5) = some false)
    (xkt06 : PySem.W.kitOne K (.ref xc0) (.ref xc6) = some false)
    (xkt07 : PySem.W.kitOne K (.ref xc0) (.ref xc7) = some false)
    (xkt08 : PySem.W.kitOne K (.ref xc0) (.ref xc8) = some false)
    (xkv0 : PySem.W.kitOne K (.ref xc0) (.type "ValueError") = some true)
    (xl1 : K.lookup xc1 = some (excClassObj xn1 xq1 xc1 xN1 xbs1 xbm1 true xsn1 xsub1 xab1 xcol1 xdd1 xm01 xm11 xm21 xm31 xm51 "ValueError.__new__"))
    (xr1 : PySem.HandSPX.refsVE xbm1 = true)
    (xsa1 : PySem.W.findIn K (.ref xc1) "__setattr__" = some (some (.builtin "object.__setattr__")))
    (xex1 : PySem.W.subIn K (.ref xc1) (.type "BaseException") = some true)
    (xty1 : PySem.W.typeIn K (.ref xc1) = some (.type "type"))
    (xk1 : PySem.W.keepIn K (.ref xc1) = true)
    (xga1 : PySem.W.findIn K (.ref xc1) "__getattribute__" = some (some (.builtin "BaseException.__getattribute__")))
    (xgt1 : PySem.W.findIn K (.ref xc1) "__getattr__" = some none)
    (xhd1 : PySem.W.hasDictIn K xc1 = true)
    (xcl1 : PySem.W.findIn K (.ref xc1) "__class__" = some (some (.builtin "object.__class__")))
    (xmo1 : PySem.W.mroIn K xc1 (.type "object") = some true)
    (xno1 : PySem.W.findIn K (.ref xc1) "value" = some none)
    (xi1 : PySem.W.findIn K (.ref xc1) "__init__" = some (some (.ref xf1)))
    (xti1 : PySem.W.typeIn K (.ref xf1) = some (.type "function"))
    (xfl1 : K.lookup xf1 = some ⟨ioc1, iod1, .func (PySem.W.fnOf "__init__" "InvalidType.__init__" (defArgs i_InvalidType) (defBody i_InvalidType) (defScope i_InvalidType) .none ikV1 idc1 ipm1 ian1 icd1 ict1), isl1⟩)
    (xfc1 : PySem.W.codeIn K icd1 "InvalidType.__init__" = true)
    (xfk1 : PySem.W.keepIn K (.ref xf1) = true)
    (xkE1 : PySem.W.kitOne K (.ref xc1) (.ref xcE) = some true)
    (xkt10 : PySem.W.kitOne K (.ref xc1) (.ref xc0) = some false)
    (xkt11 : PySem.W.kitOne K (.ref xc1) (.ref xc1) = some true)
    (xkt12 : PySem.W.kitOne K (.ref xc1) (.ref xc2) = some false)
    (xkt13 : PySem.W.kitOne K (.ref xc1) (.ref xc3) = some false)
    (xkt14 : PySem.W.kitOne K (.ref xc1) (.ref xc4) = some false)
    (xkt15 : PySem.W.kitOne K (.ref xc1) (.ref xc5) = some false)
    (xkt16 : PySem.W.kitOne K (.ref xc1) (.ref xc6) = some false)
    (xkt17 : PySem.W.kitOne K (.ref xc1) (.ref xc7) = some false)
    (xkt18 : PySem.W.kitOne K (.ref xc1) (.ref xc8) = some false)
    (xkv1 : PySem.W.kitOne K (.ref xc1) (.type "ValueError") = some true)
    (xl2 : K.lookup xc2 = some (excClassObj xn2 xq2 xc2 xN2 xbs2 xbm2 true xsn2 xsub2 xab2 xcol2 xdd2 xm02 xm12 xm22 xm32 xm52 "ValueError.__new__"))
    (xr2 : PySem.HandSPX.refsVE xbm2 = true)
    (xsa2 : PySem.W.findIn K (.ref xc2) "__setattr__" = some (some (.builtin "object.__setattr__")))
    (xex2 : PySem.W.subIn K (.ref xc2) (.type "BaseException") = some true)
    (xty2 : PySem.W.typeIn K (.ref xc2) = some (.type "type"))
    (xk2 : PySem.W.keepIn K (.ref xc2) = true)
    (xga2 : PySem.W.findIn K (.ref xc2) "__getattribute__" = some (some (.builtin "BaseException.__getattribute__")))
    (xgt2 : PySem.W.findIn K (.ref xc2) "__getattr__" = some none)
    (xhd2 : PySem.W.hasDictIn K xc2 = true)
    (xcl2 : PySem.W.findIn K (.ref xc2) "__class__" = some (some (.builtin "object.__class__")))
    (xmo2 : PySem.W.mroIn K xc2 (.type "object") = some true)
    (xno2 : PySem.W.findIn K (.ref xc2) "value" = some none)
    (xi2 : PySem.W.findIn K (.ref xc2) "__init__" = some (some (.ref xf2)))
    (xti2 : PySem.W.typeIn K (.ref xf2) = some (.type "function"))
    (xfl2 : K.lookup xf2 = some ⟨ioc2, iod2, .func (PySem.W.fnOf "__init__" "InvalidVariables.__init__" (defArgs i_InvalidVariables) (defBody i_InvalidVariables) (defScope i_InvalidVariables) .none ikV2 idc2 ipm2 ian2 icd2 ict2), isl2⟩)
    (xfc2 : PySem.W.codeIn K icd2 "InvalidVariables.__init__" = true)
    (xfk2 : PySem.W.keepIn K (.ref xf2) = true)
    (xkE2 : PySem.W.kitOne K (.ref xc2) (.ref xcE) = some true)
    (xkt20 : PySem.W.kitOne K (.ref xc2) (.ref xc0) = some false)
    (xkt21 : PySem.W.kitOne K (.ref xc2) (.ref xc1) = some false)
    (xkt22 : PySem.W.kitOne K (.ref xc2) (.ref xc2) = some true)
    (xkt23 : PySem.W.kitOne K (.ref xc2) (.ref xc3) = some false)
    (xkt24 : PySem.W.kitOne K (.ref xc2) (.ref xc4) = some false)
    (xkt25 : PySem.W.kitOne K (.ref xc2) (.ref xc5) = some false)
    (xkt26 : PySem.W.kitOne K (.ref xc2) (.ref xc6) = some false)
    (xkt27 : PySem.W.kitOne K (.ref xc2) (.ref xc7) = some false)
    (xkt28 : PySem.W.kitOne K (.ref xc2) (.ref xc8) = some false)
    (xkv2 : PySem.W.kitOne K (.ref xc2) (.type "ValueError") = some true)
    (xl3 : K.lookup xc3 = some (excClassObj xn3 xq3 xc3 xN3 xbs3 xbm3 true xsn3 xsub3 xab3 xcol3 xdd3 xm03 xm13 xm23 xm33 xm53 "ValueError.__new__"))
    (xr3 : PySem.HandSPX.refsVE xbm3 = true)
    (xsa3 : PySem.W.findIn K (.ref xc3) "__setattr__" = some (some (.builtin "object.__setattr__")))
    (xex3 : PySem.W.subIn K (.ref xc3) (.type "BaseException") = some true)
    (xty3 : PySem.W.typeIn K (.ref xc3) = some (.type "type"))
    (xk3 : PySem.W.keepIn K (.ref xc3) = true)
    (xga3 : PySem.W.findIn K (.ref xc3) "__getattribute__" = some (some (.builtin "BaseException.__getattribute__")))
    (xgt3 : PySem.W.findIn K (.ref xc3) "__getattr__" = some none)
    (xhd3 : PySem.W.hasDictIn K xc3 = true)
    (xcl3 : PySem.W.findIn K (.ref xc3) "__class__" = some (some (.builtin "object.__class__")))
    (xmo3 : PySem.W.mroIn K xc3 (.type "object") = some true)
    (xno3 : PySem.W.findIn K (.ref xc3) "value" = some none)
    (xi3 : PySem.W.findIn K (.ref xc3) "__init__" = some (some (.ref xf3)))
    (xti3 : PySem.W.typeIn K (.ref xf3) = some (.type "function"))
    (xfl3 : K.lookup xf3 = some ⟨ioc3, iod3, .func (PySem.W.fnOf "__init__" "InvalidExpression.__init__" (defArgs i_InvalidExpression) (defBody i_InvalidExpression) (defScope i_InvalidExpression) .none ikV3 idc3 ipm3 ian3 icd3 ict3), isl3⟩)
    (xfc3 : PySem.W.codeIn K icd3 "InvalidExpression.__init__" = true)
    (xfk3 : PySem.W.keepIn K (.ref xf3) = true)
    (xkE3 : PySem.W.kitOne K (.ref xc3) (.ref xcE) = some true)
    (xkt30 : PySem.W.kitOne K (.ref xc3) (.ref xc0) = some false)
    (xkt31 : PySem.W.kitOne K (.ref xc3) (.ref xc1) = some false)
    (xkt32 : PySem.W.kitOne K (.ref xc3) (.ref xc2) = some false)
    (xkt33 : PySem.W.kitOne K (.ref xc3) (.ref xc3) = some true)
    (xkt34 : PySem.W.kitOne K (.ref xc3) (.ref xc4) = some false)
    (xkt35 : PySem.W.kitOne K (.ref xc3) (.ref xc5) = some false)
    (xkt36 : PySem.W.kitOne K (.ref xc3) (.ref xc6) = some false)
    (xkt37 : PySem.W.kitOne K (.ref xc3) (.ref xc7) = some false)
    (xkt38 : PySem.W.kitOne K (.ref xc3) (.ref xc8) = some false)
    (xkv3 : PySem.W.kitOne K (.ref xc3) (.type "ValueError") = some true)
    (xl4 : K.lookup xc4 = some (excClassObj xn4 xq4 xc4 xN4 xbs4 xbm4 true xsn4 xsub4 xab4 xcol4 xdd4 xm04 xm14 xm24 xm34 xm54 "ValueError.__new__"))
    (xr4 : PySem.HandSPX.refsVE xbm4 = true)
    (xsa4 : PySem.W.findIn K (.ref xc4) "__setattr__" = some (some (.builtin "object.__setattr__")))
    (xex4 : PySem.W.subIn K (.ref xc4) (.type "BaseException") = some true)
    (xty4 : PySem.W.typeIn K (.ref xc4) = some (.type "type"))
    (xk4 : PySem.W.keepIn K (.ref xc4) = true)
    (xga4 : PySem.W.findIn K (.ref xc4) "__getattribute__" = some (some (.builtin "BaseException.__getattribute__")))
    (xgt4 : PySem.W.findIn K (.ref xc4) "__getattr__" = some none)
    (xhd4 : PySem.W.hasDictIn K xc4 = true)
    (xcl4 : PySem.W.findIn K (.ref xc4) "__class__" = some (some (.builtin "object.__class__")))
    (xmo4 : PySem.W.mroIn K xc4 (.type "object") = some true)
    (xno4 : PySem.W.findIn K (.ref xc4) "value" = some none)
    (xi4 : PySem.W.findIn K (.ref xc4) "__init__" = some (some (.ref xf4)))
    (xti4 : PySem.W.typeIn K (.ref xf4) = some (.type "function"))
    (xfl4 : K.lookup xf4 = some ⟨ioc4, iod4, .func (PySem.W.fnOf "__init__" "InvalidValues.__init__" (defArgs i_InvalidValues) (defBody i_InvalidValues) (defScope i_InvalidValues) .none ikV4 idc4 ipm4 ian4 icd4 ict4), isl4⟩)
    (xfc4 : PySem.W.codeIn K icd4 "InvalidValues.__init__" = true)
    (xfk4 : PySem.W.keepIn K (.ref xf4) = true)
    (xkE4 : PySem.W.kitOne K (.ref xc4) (.ref xcE) = some true)
    (xkt40 : PySem.W.kitOne K (.ref xc4) (.ref xc0) = some false)
    (xkt41 : PySem.W.kitOne K (.ref xc4) (.ref xc1) = some false)
    (xkt42 : PySem.W.kitOne K (.ref xc4) (.ref xc2) = some false)
    (xkt43 : PySem.W.kitOne K (.ref xc4) (.ref xc3) = some false)
    (xkt44 : PySem.W.kitOne K (.ref xc4) (.ref xc4) = some true)
    (xkt45 : PySem.W.kitOne K (.ref xc4) (.ref xc5) = some false)
    (xkt46 : PySem.W.kitOne K (.ref xc4) (.ref xc6) = some false)
    (xkt47 : PySem.W.kitOne K (.ref xc4) (.ref xc7) = some false)
    (xkt48 : PySem.W.kitOne K (.ref xc4) (.ref xc8) = some false)
    (xkv4 : PySem.W.kitOne K (.ref xc4) (.type "ValueError") = some true)
    (xl5 : K.lookup xc5 = some (excClassObj xn5 xq5 xc5 xN5 xbs5 xbm5 true xsn5 xsub5 xab5 xcol5 xdd5 xm05 xm15 xm25 xm35 xm55 "ValueError.__new__"))
    (xr5 : PySem.HandSPX.refsVE xbm5 = true)
    (xsa5 : PySem.W.findIn K (.ref xc5) "__setattr__" = some (some (.builtin "object.__setattr__")))
    (xex5 : PySem.W.subIn K (.ref xc5) (.type "BaseException") = some true)
    (xty5 : PySem.W.typeIn K (.ref xc5) = some (.type "type"))
    (xk5 : PySem.W.keepIn K (.ref xc5) = true)
    (xga5 : PySem.W.findIn K (.ref xc5) "__getattribute__" = some (some (.builtin "BaseException.__getattribute__")))
    (xgt5 : PySem.W.findIn K (.ref xc5) "__getattr__" = some none)
    (xhd5 : PySem.W.hasDictIn K xc5 = true)
    (xcl5 : PySem.W.findIn K (.ref xc5) "__class__" = some (some (.builtin "object.__class__")))
    (xmo5 : PySem.W.mroIn K xc5 (.type "object") = some true)
    (xno5 : PySem.W.findIn K (.ref xc5) "value" = some none)
    (xi5 : PySem.W.findIn K (.ref xc5) "__init__" = some (some (.ref xf5)))
    (xti5 : PySem.W.typeIn K (.ref xf5) = some (.type "function"))
    (xfl5 : K.lookup xf5 = some ⟨ioc5, iod5, .func (PySem.W.fnOf "__init__" "InvalidNumber.__init__" (defArgs i_InvalidNumber) (defBody i_InvalidNumber) (defScope i_InvalidNumber) .none ikV5 idc5 ipm5 ian5 icd5 ict5), isl5⟩)
    (xfc5 : PySem.W.codeIn K icd5 "InvalidNumber.__init__" = true)
    (xfk5 : PySem.W.keepIn K (.ref xf5) = true)
    (xkE5 : PySem.W.kitOne K (.ref xc5) (.ref xcE) = some true)
    (xkt50 : PySem.W.kitOne K (.ref xc5) (.ref xc0) = some false)
    (xkt51 : PySem.W.kitOne K (.ref xc5) (.ref xc1) = some false)
    (xkt52 : PySem.W.kitOne K (.ref xc5) (.ref xc2) = some false)
    (xkt53 : PySem.W.kitOne K (.ref xc5) (.ref xc3) = some false)
    (xkt54 : PySem.W.kitOne K (.ref xc5) (.ref xc4) = some false)
    (xkt55 : PySem.W.kitOne K (.ref xc5) (.ref xc5) = some true)
    (xkt56 : PySem.W.kitOne K (.ref xc5) (.ref xc6) = some false)
    (xkt57 : PySem.W.kitOne K (.ref xc5) (.ref xc7) = some false)
    (xkt58 : PySem.W.kitOne K (.ref xc5) (.ref xc8) = some false)
    (xkv5 : PySem.W.kitOne K (.ref xc5) (.type "ValueError") = some true)
    (xl6 : K.lookup xc6 = some (excClassObj xn6 xq6 xc6 xN6 xbs6 xbm6 true xsn6 xsub6 xab6 xcol6 xdd6 xm06 xm16 xm26 xm36 xm56 "ValueError.__new__"))
    (xr6 : PySem.HandSPX.refsVE xbm6 = true)
    (xsa6 : PySem.W.findIn K (.ref xc6) "__setattr__" = some (some (.builtin "object.__setattr__")))
    (xex6 : PySem.W.subIn K (.ref xc6) (.type "BaseException") = some true)
    (xty6 : PySem.W.typeIn K (.ref xc6) = some (.type "type"))
    (xk6 : PySem.W.keepIn K (.ref xc6) = true)
    (xga6 : PySem.W.findIn K (.ref xc6) "__getattribute__" = some (some (.builtin "BaseException.__getattribute__")))
    (xgt6 : PySem.W.findIn K (.ref xc6) "__getattr__" = some none)
    (xhd6 : PySem.W.hasDictIn K xc6 = true)
    (xcl6 : PySem.W.findIn K (.ref xc6) "__class__" = some (some (.builtin "object.__class__")))
    (xmo6 : PySem.W.mroIn K xc6 (.type "object") = some true)
    (xno6 : PySem.W.findIn K (.ref xc6) "value" = some none)
    (xi6 : PySem.W.findIn K (.ref xc6) "__init__" = some (some (.ref xf6)))
    (xti6 : PySem.W.typeIn K (.ref xf6) = some (.type "function"))
    (xfl6 : K.lookup xf6 = some ⟨ioc6, iod6, .func (PySem.W.fnOf "__init__" "NotAdmitted.__init__" (defArgs i_NotAdmitted) (defBody i_NotAdmitted) (defScope i_NotAdmitted) .none ikV6 idc6 ipm6 ian6 icd6 ict6), isl6⟩)
    (xfc6 : PySem.W.codeIn K icd6 "NotAdmitted.__init__" = true)
    (xfk6 : PySem.W.keepIn K (.ref xf6) = true)
    (xkE6 : PySem.W.kitOne K (.ref xc6) (.ref xcE) = some true)
    (xkt60 : PySem.W.kitOne K (.ref xc6) (.ref xc0) = some false)
    (xkt61 : PySem.W.kitOne K (.ref xc6) (.ref xc1) = some false)
    (xkt62 : PySem.W.kitOne K (.ref xc6) (.ref xc2) = some false)
    (xkt63 : PySem.W.kitOne K (.ref xc6) (.ref xc3) = some false)
    (xkt64 : PySem.W.kitOne K (.ref xc6) (.ref xc4) = some false)
    (xkt65 : PySem.W.kitOne K (.ref xc6) (.ref xc5) = some false)
    (xkt66 : PySem.W.kitOne K (.ref xc6) (.ref xc6) = some true)
    (xkt67 : PySem.W.kitOne K (.ref xc6) (.ref xc7) = some false)
    (xkt68 : PySem.W.kitOne K (.ref xc6) (.ref xc8) = some false)
    (xkv6 : PySem.W.kitOne K (.ref xc6) (.type "ValueError") = some true)
    (xl7 : K.lookup xc7 = some (excClassObj xn7 xq7 xc7 xN7 xbs7 xbm7 true xsn7 xsub7 xab7 xcol7 xdd7 xm07 xm17 xm27 xm37 xm57 "ValueError.__new__"))
    (xr7 : PySem.HandSPX.refsVE xbm7 = true)
    (xsa7 : PySem.W.findIn K (.ref xc7) "__setattr__" = some (some (.builtin "object.__setattr__")))
    (xex7 : PySem.W.subIn K (.ref xc7) (.type "BaseException") = some true)
    (xty7 : PySem.W.typeIn K (.ref xc7) = some (.type "type"))
    (xk7 : PySem.W.keepIn K (.ref xc7) = true)
    (xga7 : PySem.W.findIn K (.ref xc7) "__getattribute__" = some (some (.builtin "BaseException.__getattribute__")))
    (xgt7 : PySem.W.findIn K (.ref xc7) "__getattr__" = some none)
    (xhd7 : PySem.W.hasDictIn K xc7 = true)
    (xcl7 : PySem.W.findIn K (.ref xc7) "__class__" = some (some (.builtin "object.__class__")))
    (xmo7 : PySem.W.mroIn K xc7 (.type "object") = some true)
    (xno7 : PySem.W.findIn K (.ref xc7) "value" = some none)
    (xi7 : PySem.W.findIn K (.ref xc7) "__init__" = some (some (.ref xf7)))
    (xti7 : PySem.W.typeIn K (.ref xf7) = some (.type "function"))
    (xfl7 : K.lookup xf7 = some ⟨ioc7, iod7, .func (PySem.W.fnOf "__init__" "NothingToUndo.__init__" (defArgs i_NothingToUndo) (defBody i_NothingToUndo) (defScope i_NothingToUndo) .none ikV7 idc7 ipm7 ian7 icd7 ict7), isl7⟩)
    (xfc7 : PySem.W.codeIn K icd7 "NothingToUndo.__init__" = true)
    (xfk7 : PySem.W.keepIn K (.ref xf7) = true)
    (xkE7 : PySem.W.kitOne K (.ref xc7) (.ref xcE) = some true)
    (xkt70 : PySem.W.kitOne K (.ref xc7) (.ref xc0) = some false)
    (xkt71 : PySem.W.kitOne K (.ref xc7) (.ref xc1) = some false)
    (xkt72 : PySem.W.kitOne K (.ref xc7) (.ref xc2) = some false)
    (xkt73 : PySem.W.kitOne K (.ref xc7) (.ref xc3) = some false)
    (xkt74 : PySem.W.kitOne K (.ref xc7) (.ref xc4) = some false)
    (xkt75 : PySem.W.kitOne K (.ref xc7) (.ref xc5) = some false)
    (xkt76 : PySem.W.kitOne K (.ref xc7) (.ref xc6) = some false)
    (xkt77 : PySem.W.kitOne K (.ref xc7) (.ref xc7) = some true)
    (xkt78 : PySem.W.kitOne K (.ref xc7) (.ref xc8) = some false)
    (xkv7 : PySem.W.kitOne K (.ref xc7) (.type "ValueError") = some true)
    (xl8 : K.lookup xc8 = some (excClassObj xn8 xq8 xc8 xN8 xbs8 xbm8 true xsn8 xsub8 xab8 xcol8 xdd8 xm08 xm18 xm28 xm38 xm58 "ValueError.__new__"))
    (xr8 : PySem.HandSPX.refsVE xbm8 = true)
    (xsa8 : PySem.W.findIn K (.ref xc8) "__setattr__" = some (some (.builtin "object.__setattr__")))
    (xex8 : PySem.W.subIn K (.ref xc8) (.type "BaseException") = some true)
    (xty8 : PySem.W.typeIn K (.ref xc8) = some (.type "type"))
    (xk8 : PySem.W.keepIn K (.ref xc8) = true)
    (xga8 : PySem.W.findIn K (.ref xc8) "__getattribute__" = some (some (.builtin "BaseException.__getattribute__")))
    (xgt8 : PySem.W.findIn K (.ref xc8) "__getattr__" = some none)
    (xhd8 : PySem.W.hasDictIn K xc8 = true)
    (xcl8 : PySem.W.findIn K (.ref xc8) "__class__" = some (some (.builtin "object.__class__")))
    (xmo8 : PySem.W.mroIn K xc8 (.type "object") = some true)
    (xno8 : PySem.W.findIn K (.ref xc8) "value" = some none)
    (xi8 : PySem.W.findIn K (.ref xc8) "__init__" = some (some (.ref xf8)))
    (xti8 : PySem.W.typeIn K (.ref xf8) = some (.type "function"))
    (xfl8 : K.lookup xf8 = some ⟨ioc8, iod8, .func (PySem.W.fnOf "__init__" "Unreadable.__init__" (defArgs i_Unreadable) (defBody i_Unreadable) (defScope i_Unreadable) .none ikV8 idc8 ipm8 ian8 icd8 ict8), isl8⟩)
    (xfc8 : PySem.W.codeIn K icd8 "Unreadable.__init__" = true)
    (xfk8 : PySem.W.keepIn K (.ref xf8) = true)
    (xkE8 : PySem.W.kitOne K (.ref xc8) (.ref xcE) = some true)
    (xkt80 : PySem.W.kitOne K (.ref xc8) (.ref xc0) = some false)
    (xkt81 : PySem.W.kitOne K (.ref xc8) (.ref xc1) = some false)
    (xkt82 : PySem.W.kitOne K (.ref xc8) (.ref xc2) = some false)
    (xkt83 : PySem.W.kitOne K (.ref xc8) (.ref xc3) = some false)
    (xkt84 : PySem.W.kitOne K (.ref xc8) (.ref xc4) = some false)
    (xkt85 : PySem.W.kitOne K (.ref xc8) (.ref xc5) = some false)
    (xkt86 : PySem.W.kitOne K (.ref xc8) (.ref xc6) = some false)
    (xkt87 : PySem.W.kitOne K (.ref xc8) (.ref xc7) = some false)
    (xkt88 : PySem.W.kitOne K (.ref xc8) (.ref xc8) = some true)
    (xkv8 : PySem.W.kitOne K (.ref xc8) (.type "ValueError") = some true)
    (ega : PySem.W.findIn K (.ref xcE) "__getattribute__" = some (some (.builtin "BaseException.__getattribute__")))
    (egt : PySem.W.findIn K (.ref xcE) "__getattr__" = some none)
    (ecl : PySem.W.findIn K (.ref xcE) "__class__" = some (some (.builtin "object.__class__")))
    (emo : PySem.W.mroIn K xcE (.type "object") = some true)
    (eno : PySem.W.findIn K (.ref xcE) "value" = some none)
    (ekp : PySem.W.keepIn K (.ref xcE) = true)
    (eex : PySem.W.excIn K xcE [.type "ValueError", .type "Exception", .type "BaseException", .type "object"] "ValueError.__new__" = true)
    (ekt0 : PySem.W.kitOne K (.ref xcE) (.ref xc0) = some false)
    (ekt1 : PySem.W.kitOne K (.ref xcE) (.ref xc1) = some false)
    (ekt2 : PySem.W.kitOne K (.ref xcE) (.ref xc2) = some false)
    (ekt3 : PySem.W.kitOne K (.ref xcE) (.ref xc3) = some false)
    (ekt4 : PySem.W.kitOne K (.ref xcE) (.ref xc4) = some false)
    (ekt5 : PySem.W.kitOne K (.ref xcE) (.ref xc5) = some false)
    (ekt6 : PySem.W.kitOne K (.ref xcE) (.ref xc6) = some false)
    (ekt7 : PySem.W.kitOne K (.ref xcE) (.ref xc7) = some false)
    (ekt8 : PySem.W.kitOne K (.ref xcE) (.ref xc8) = some false)
    (ekv : PySem.W.kitOne K (.ref xcE) (.type "ValueError") = some true)
    (z0 : PySem.W.nsIn K mainGlobals "abs" = some none)
    (z1 : PySem.W.nsIn K mainGlobals "len" = some none)
    (z2 : PySem.W.nsIn K mainGlobals "isinstance" = some none)
    (z3 : PySem.W.nsIn K mainGlobals "range" = some none)
    (z4 : PySem.W.nsIn K mainGlobals "min" = some none)
    (z5 : PySem.W.nsIn K mainGlobals "repr" = some none)
    (z6 : PySem.W.nsIn K mainGlobals "ValueError" = some none) :
    ∃ fd : FuncData, (∀ (s : Shared) (u : Value), BindsTo s fd ⟨[u], []⟩ [("script", u)]) ∧ ∀ base : Heap, K.In base → base.Ns mainGlobals mg → FnG Pr w K mg base CX0 4 fa fd ["script"] (spLaw K) := by
  have e := hfa.symm.trans (PySem.W.mg_of X G a4)
  cases e
  have D0 := df_mk (st := s__law_bag) (ps := ["script"]) X G a0 l0 c0 k0 fun _ _ _ _ _ _ us hl => match us, hl with | [_], _ => rfl
  have D1 := df_mk (st := s__law_draw) (ps := ["bag", "many"]) X G a1 l1 c1 k1 fun _ _ _ _ _ _ us hl => match us, hl with | [_, _], _ => rfl
  have D2 := df_mk (st := s__law_made) (ps := ["thing"]) X G a2 l2 c2 k2 fun _ _ _ _ _ _ us hl => match us, hl with | [_], _ => rfl
  have D3 := df_mk (st := s__law_flags) (ps := ["e"]) X G a3 l3 c3 k3 fun _ _ _ _ _ _ us hl => match us, hl with | [_], _ => rfl
  have D4 := df_mk (st := s_law) (ps := ["script"]) X G a4 l4 c4 k4 fun _ _ _ _ _ _ us hl => match us, hl with | [_], _ => rfl
  have N_abs : mg "abs" = none := PySem.W.mg_none_of X G z0
  have N_len : mg "len" = none := PySem.W.mg_none_of X G z1
  have N_isinstance : mg "isinstance" = none := PySem.W.mg_none_of X G z2
  have N_range : mg "range" = none := PySem.W.mg_none_of X G z3
  have N_min : mg "min" = none := PySem.W.mg_none_of X G z4
  have N_repr : mg "repr" = none := PySem.W.mg_none_of X G z5
  have N_ValueError : mg "ValueError" = none := PySem.W.mg_none_of X G z6
  have Ox0 : OexC K xc0 := ⟨⟨_, _, _, _, _, _, _, _, _, _, _, _, _, _, _, xl0, xr0⟩, xsa0, xex0, xty0, xk0⟩
  have Ec0 : ExcC K xc0 := ⟨xga0, xgt0, xex0, xhd0, xcl0, yn, yt, xmo0⟩
  have If0 : IsF K xc0 xc0 xc1 xc2 xc3 xc4 xc5 xc6 xc7 xc8 true false false false false false false false false := ⟨Ec0, xno0, xkt00, xkt01, xkt02, xkt03, xkt04, xkt05, xkt06, xkt07, xkt08, xkv0⟩
  have Ox1 : OexC K xc1 := ⟨⟨_, _, _, _, _, _, _, _, _, _, _, _, _, _, _, xl1, xr1⟩, xsa1, xex1, xty1, xk1⟩
  have Ec1 : ExcC K xc1 := ⟨xga1, xgt1, xex1, xhd1, xcl1, yn, yt, xmo1⟩
  have If1 : IsF K xc1 xc0 xc1 xc2 xc3 xc4 xc5 xc6 xc7 xc8 false true false false false false false false false := ⟨Ec1, xno1, xkt10, xkt11, xkt12, xkt13, xkt14, xkt15, xkt16, xkt17, xkt18, xkv1⟩
  have Ox2 : OexC K xc2 := ⟨⟨_, _, _, _, _, _, _, _, _, _, _, _, _, _, _, xl2, xr2⟩, xsa2, xex2, xty2, xk2⟩
  have Ec2 : ExcC K xc2 := ⟨xga2, xgt2, xex2, xhd2, xcl2, yn, yt, xmo2⟩
  have If2 : IsF K xc2 xc0 xc1 xc2 xc3 xc4 xc5 xc6 xc7 xc8 false false true false false false false false false := ⟨Ec2, xno2, xkt20, xkt21, xkt22, xkt23, xkt24, xkt25, xkt26, xkt27, xkt28, xkv2⟩
  have Ox3 : OexC K xc3 := ⟨⟨_, _, _, _, _, _, _, _, _, _, _, _, _, _, _, xl3, xr3⟩, xsa3, xex3, xty3, xk3⟩
  have Ec3 : ExcC K xc3 := ⟨xga3, xgt3, xex3, xhd3, xcl3, yn, yt, xmo3⟩
  have If3 : IsF K xc3 xc0 xc1 xc2 xc3 xc4 xc5 xc6 xc7 xc8 false false false true false false false false false := ⟨Ec3, xno3, xkt30, xkt31, xkt32, xkt33, xkt34, xkt35, xkt36, xkt37, xkt38, xkv3⟩
  have Ox4 : OexC K xc4 := ⟨⟨_, _, _, _, _, _, _, _, _, _, _, _, _, _, _, xl4, xr4⟩, xsa4, xex4, xty4, xk4⟩
  have Ec4 : ExcC K xc4 := ⟨xga4, xgt4, xex4, xhd4, xcl4, yn, yt, xmo4⟩
  have If4 : IsF K xc4 xc0 xc1 xc2 xc3 xc4 xc5 xc6 xc7 xc8 false false false false true false false false false := ⟨Ec4, xno4, xkt40, xkt41, xkt42, xkt43, xkt44, xkt45, xkt46, xkt47, xkt48, xkv4⟩
  have Ox5 : OexC K xc5 := ⟨⟨_, _, _, _, _, _, _, _, _, _, _, _, _, _, _, xl5, xr5⟩, xsa5, xex5, xty5, xk5⟩
  have Ec5 : ExcC K xc5 := ⟨xga5, xgt5, xex5, xhd5, xcl5, yn, yt, xmo5⟩
  have If5 : IsF K xc5 xc0 xc1 xc2 xc3 xc4 xc5 xc6 xc7 xc8 false false false false false true false false false := ⟨Ec5, xno5, xkt50, xkt51, xkt52, xkt53, xkt54, xkt55, xkt56, xkt57, xkt58, xkv5⟩
  have Ox6 : OexC K xc6 := ⟨⟨_, _, _, _, _, _, _, _, _, _, _, _, _, _, _, xl6, xr6⟩, xsa6, xex6, xty6, xk6⟩
  have Ec6 : ExcC K xc6 := ⟨xga6, xgt6, xex6, xhd6, xcl6, yn, yt, xmo6⟩
  have If6 : IsF K xc6 xc0 xc1 xc2 xc3 xc4 xc5 xc6 xc7 xc8 false false false false false false true false false := ⟨Ec6, xno6, xkt60, xkt61, xkt62, xkt63, xkt64, xkt65, xkt66, xkt67, xkt68, xkv6⟩
  have Ox7 : OexC K xc7 := ⟨⟨_, _, _, _, _, _, _, _, _, _, _, _, _, _, _, xl7, xr7⟩, xsa7, xex7, xty7, xk7⟩
  have Ec7 : ExcC K xc7 := ⟨xga7, xgt7, xex7, xhd7, xcl7, yn, yt, xmo7⟩
  have If7 : IsF K xc7 xc0 xc1 xc2 xc3 xc4 xc5 xc6 xc7 xc8 false false false false false false false true false := ⟨Ec7, xno7, xkt70, xkt71, xkt72, xkt73, xkt74, xkt75, xkt76, xkt77, xkt78, xkv7⟩
  have Ox8 : OexC K xc8 := ⟨⟨_, _, _, _, _, _, _, _, _, _, _, _, _, _, _, xl8, xr8⟩, xsa8, xex8, xty8, xk8⟩
  have Ec8 : ExcC K xc8 := ⟨xga8, xgt8, xex8, xhd8, xcl8, yn, yt, xmo8⟩
  have If8 : IsF K xc8 xc0 xc1 xc2 xc3 xc4 xc5 xc6 xc7 xc8 false false false false false false false false true := ⟨Ec8, xno8, xkt80, xkt81, xkt82, xkt83, xkt84, xkt85, xkt86, xkt87, xkt88, xkv8⟩
  have EcE : ExcC K xcE := ⟨ega, egt, xe1, xe2, ecl, yn, yt, emo⟩
  have IfE : IsF K xcE xc0 xc1 xc2 xc3 xc4 xc5 xc6 xc7 xc8 false false false false false false false false false := ⟨EcE, eno, ekt0, ekt1, ekt2, ekt3, ekt4, ekt5, ekt6, ekt7, ekt8, ekv⟩
  have E_10 : Er10 K mg xc0 xc1 xc2 xc3 xc4 xc5 xc6 xc7 xc8 xcE := ⟨PySem.W.mg_of X G xg0, PySem.W.mg_of X G xg1, PySem.W.mg_of X G xg2, PySem.W.mg_of X G xg3, PySem.W.mg_of X G xg4, PySem.W.mg_of X G xg5, PySem.W.mg_of X G xg6, PySem.W.mg_of X G xg7, PySem.W.mg_of X G xg8, PySem.W.mg_of X G xgE, If0, If1, If2, If3, If4, If5, If6, If7, If8, IfE, xkE0, xkE1, xkE2, xkE3, xkE4, xkE5, xkE6, xkE7, xkE8⟩
  have gE : mg "CastError" = some (.ref xcE) := PySem.W.mg_of X G xgE
  refine ⟨PySem.W.fnOf "law" "law" (defArgs s_law) (defBody s_law) (defScope s_law) .none kV4 dc4 pm4 an4 cd4 ct4, fun s v => .of_eq rfl, fun base _ _ => ?_⟩
  have X_InvalidModel : XiK Pr w K mg base "InvalidModel" xc0 := ⟨_, _, ⟨PySem.W.mg_of X G xg0, Ox0, Ec0, xno0, xi0, xti0⟩, ok_init_InvalidModel (fun_mk (st := i_InvalidModel) xfl0 xfc0 xfk0), (fun_mk (st := i_InvalidModel) xfl0 xfc0 xfk0).binds fun _ _ _ _ _ _ us hl => match us, hl with | [_, _], _ => rfl, fun _ _ _ => .of_eq rfl⟩
  have X_InvalidType : XiK Pr w K mg base "InvalidType" xc1 := ⟨_, _, ⟨PySem.W.mg_of X G xg1, Ox1, Ec1, xno1, xi1, xti1⟩, ok_init_InvalidType (fun_mk (st := i_InvalidType) xfl1 xfc1 xfk1), (fun_mk (st := i_InvalidType) xfl1 xfc1 xfk1).binds fun _ _ _ _ _ _ us hl => match us, hl with | [_, _], _ => rfl, fun _ _ _ => .of_eq rfl⟩
  have X_InvalidVariables : XiK Pr w K mg base "InvalidVariables" xc2 := ⟨_, _, ⟨PySem.W.mg_of X G xg2, Ox2, Ec2, xno2, xi2, xti2⟩, ok_init_InvalidVariables (fun_mk (st := i_InvalidVariables) xfl2 xfc2 xfk2), (fun_mk (st := i_InvalidVariables) xfl2 xfc2 xfk2).binds fun _ _ _ _ _ _ us hl => match us, hl with | [_, _], _ => rfl, fun _ _ _ => .of_eq rfl⟩
  have X_InvalidExpression : XiK Pr w K mg base "InvalidExpression" xc3 := ⟨_, _, ⟨PySem.W.mg_of X G xg3, Ox3, Ec3, xno3, xi3, xti3⟩, ok_init_InvalidExpression (fun_mk (st := i_InvalidExpression) xfl3 xfc3 xfk3), (fun_mk (st := i_InvalidExpression) xfl3 xfc3 xfk3).binds fun _ _ _ _ _ _ us hl => match us, hl with | [_, _], _ => rfl, fun _ _ _ => .of_eq rfl⟩
  have X_InvalidValues : XiK Pr w K mg base "InvalidValues" xc4 := ⟨_, _, ⟨PySem.W.mg_of X G xg4, Ox4, Ec4, xno4, xi4, xti4⟩, ok_init_InvalidValues (fun_mk (st := i_InvalidValues) xfl4 xfc4 xfk4), (fun_mk (st := i_InvalidValues) xfl4 xfc4 xfk4).binds fun _ _ _ _ _ _ us hl => match us, hl with | [_, _], _ => rfl, fun _ _ _ => .of_eq rfl⟩
  have X_InvalidNumber : XiK Pr w K mg base "InvalidNumber" xc5 := ⟨_, _, ⟨PySem.W.mg_of X G xg5, Ox5, Ec5, xno5, xi5, xti5⟩, ok_init_InvalidNumber (fun_mk (st := i_InvalidNumber) xfl5 xfc5 xfk5), (fun_mk (st := i_InvalidNumber) xfl5 xfc5 xfk5).binds fun _ _ _ _ _ _ us hl => match us, hl with | [_, _], _ => rfl, fun _ _ _ => .of_eq rfl⟩
  have X_NotAdmitted : XiK Pr w K mg base "NotAdmitted" xc6 := ⟨_, _, ⟨PySem.W.mg_of X G xg6, Ox6, Ec6, xno6, xi6, xti6⟩, ok_init_NotAdmitted (fun_mk (st := i_NotAdmitted) xfl6 xfc6 xfk6), (fun_mk (st := i_NotAdmitted) xfl6 xfc6 xfk6).binds fun _ _ _ _ _ _ us hl => match us, hl with | [_, _], _ => rfl, fun _ _ _ => .of_eq rfl⟩
  have X_NothingToUndo : XiK Pr w K mg base "NothingToUndo" xc7 := ⟨_, _, ⟨PySem.W.mg_of X G xg7, Ox7, Ec7, xno7, xi7, xti7⟩, ok_init_NothingToUndo (fun_mk (st := i_NothingToUndo) xfl7 xfc7 xfk7), (fun_mk (st := i_NothingToUndo) xfl7 xfc7 xfk7).binds fun _ _ _ _ _ _ us hl => match us, hl with | [_, _], _ => rfl, fun _ _ _ => .of_eq rfl⟩
  have X_Unreadable : XiK Pr w K mg base "Unreadable" xc8 := ⟨_, _, ⟨PySem.W.mg_of X G xg8, Ox8, Ec8, xno8, xi8, xti8⟩, ok_init_Unreadable (fun_mk (st := i_Unreadable) xfl8 xfc8 xfk8), (fun_mk (st := i_Unreadable) xfl8 xfc8 xfk8).binds fun _ _ _ _ _ _ us hl => match us, hl with | [_, _], _ => rfl, fun _ _ _ => .of_eq rfl⟩
  have G__law_bag := ok__law_bag (P := Pr) (w := w) (base := base) D0 N_abs
  have C__law_bag := Cl.mk D0 G__law_bag
  have G__law_draw := ok__law_draw (P := Pr) (w := w) (base := base) D1 N_len
  have C__law_draw := Cl.mk D1 G__law_draw
  have G__law_made := ok__law_made (P := Pr) (w := w) (base := base) D2 X_InvalidModel X_InvalidType X_InvalidVariables X_InvalidExpression X_InvalidValues X_InvalidNumber X_NotAdmitted X_NothingToUndo X_Unreadable
  have C__law_made := Cl.mk D2 G__law_made
  have G__law_flags := ok__law_flags (P := Pr) (w := w) (base := base) D3 E_10 N_isinstance
  have C__law_flags := Cl.mk D3 G__law_flags
  have G_law := ok_law (P := Pr) (w := w) (base := base) D4 E_10 eex ekp C__law_bag C__law_draw C__law_made C__law_flags N_range N_min N_len N_repr N_isinstance N_ValueError
  exact G_law
end Cf
open PySem PySem.W PyProof.Rows
set_option maxHeartbeats 0 in
theorem PySem.Challenge.cw_castforms_k75_errors_made_holds : PySem.Challenge.rw_castforms_k75_errors_made.Holds := by
  w_on; o_law; k_head; (case hw => w_witness2)
  k_fill
  refine Cf.walkG (l := PySem.Challenge.rw_castforms_k75_errors_made) (n := 63) (k := 4) (x := "script") (CX := fun _ => L2.CX0) (sp := fun w => Cf.spLaw _) rfl (by decide) rfl ⟨rfl, by decide, by decide⟩ (fun w h Y => PySem.W.kIn_of Y) ?F (fun _ _ a ns hl _ hS => ⟨a, ns, rfl, hS, hl, fun _ => rfl⟩) (fun _ _ _ _ _ h => h)
  case F =>
    intro w mg fa h KX G hmg
    refine' Cf.all_mk (w := w) KX G hmg ?a0 ?l0 ?c0 ?k0 ?a1 ?l1 ?c1 ?k1 ?a2 ?l2 ?c2 ?k2 ?a3 ?l3 ?c3 ?k3 ?a4 ?l4 ?c4 ?k4 ?xg0 ?xg1 ?xg2 ?xg3 ?xg4 ?xg5 ?xg6 ?xg7 ?xg8 ?xgE ?xe1 ?xe2 ?xe3 ?yn ?yt ?xl0 ?xr0 ?xsa0 ?xex0 ?xty0 ?xk0 ?xga0 ?xgt0 ?xhd0 ?xcl0 ?xmo0 ?xno0 ?xi0 ?xti0 ?xfl0 ?xfc0 ?xfk0 ?xkE0 ?xkt00 ?xkt01 ?xkt02 ?xkt03 ?xkt04 ?xkt05 ?xkt06 ?xkt07 ?xkt08 ?xkv0 ?xl1 ?xr1 ?xsa1 ?xex1 ?xty1 ?xk1 ?xga1 ?xgt1 ?xhd1 ?xcl1 ?xmo1 ?xno1 ?xi1 ?xti1 ?xfl1 ?xfc1 ?xfk1 ?xkE1 ?xkt10 ?xkt11 ?xkt12 ?xkt13 ?xkt14 ?xkt15 ?xkt16 ?xkt17 ?xkt18 ?xkv1 ?xl2 ?xr2 ?xsa2 ?xex2 ?xty2 ?xk2 ?xga2 ?xgt2 ?xhd2 ?xcl2 ?xmo2 ?xno2 ?xi2 ?xti2 ?xfl2 ?xfc2 ?xfk2 ?xkE2 ?xkt20 ?xkt21 ?xkt22 ?xkt23 ?xkt24 ?xkt25 ?xkt26 ?xkt27 ?xkt28 ?xkv2 ?xl3 ?xr3 ?xsa3 ?xex3 ?xty3 ?xk3 ?xga3 ?xgt3 ?xhd3 ?xcl3 ?xmo3 ?xno3 ?xi3 ?xti3 ?xfl3 ?xfc3 ?xfk3 ?xkE3 ?xkt30 ?xkt31 ?xkt32 ?xkt33 ?xkt34 ?xkt35 ?xkt36 ?xkt37 ?xkt38 ?xkv3 ?xl4 ?xr4 ?xsa4 ?xex4 ?xty4 ?xk4 ?xga4 ?xgt4 ?xhd4 ?xcl4 ?xmo4 ?xno4 ?xi4 ?xti4 ?xfl4 ?xfc4 ?xfk4 ?xkE4 ?xkt40 ?xkt41 ?xkt42 ?xkt43 ?xkt44 ?xkt45 ?xkt46 ?xkt47 ?xkt48 ?xkv4 ?xl5 ?xr5 ?xsa5 ?xex5 ?xty5 ?xk5 ?xga5 ?xgt5 ?xhd5 ?xcl5 ?xmo5 ?xno5 ?xi5 ?xti5 ?xfl5 ?xfc5 ?xfk5 ?xkE5 ?xkt50 ?xkt51 ?xkt52 ?xkt53 ?xkt54 ?xkt55 ?xkt56 ?xkt57 ?xkt58 ?xkv5 ?xl6 ?xr6 ?xsa6 ?xex6 ?xty6 ?xk6 ?xga6 ?xgt6 ?xhd6 ?xcl6 ?xmo6 ?xno6 ?xi6 ?xti6 ?xfl6 ?xfc6 ?xfk6 ?xkE6 ?xkt60 ?xkt61 ?xkt62 ?xkt63 ?xkt64 ?xkt65 ?xkt66 ?xkt67 ?xkt68 ?xkv6 ?xl7 ?xr7 ?xsa7 ?xex7 ?xty7 ?xk7 ?xga7 ?xgt7 ?xhd7 ?xcl7 ?xmo7 ?xno7 ?xi7 ?xti7 ?xfl7 ?xfc7 ?xfk7 ?xkE7 ?xkt70 ?xkt71 ?xkt72 ?xkt73 ?xkt74 ?xkt75 ?xkt76 ?xkt77 ?xkt78 ?xkv7 ?xl8 ?xr8 ?xsa8 ?xex8 ?xty8 ?xk8 ?xga8 ?xgt8 ?xhd8 ?xcl8 ?xmo8 ?xno8 ?xi8 ?xti8 ?xfl8 ?xfc8 ?xfk8 ?xkE8 ?xkt80 ?xkt81 ?xkt82 ?xkt83 ?xkt84 ?xkt85 ?xkt86 ?xkt87 ?xkt88 ?xkv8 ?ega ?egt ?ecl ?emo ?eno ?ekp ?eex ?ekt0 ?ekt1 ?ekt2 ?ekt3 ?ekt4 ?ekt5 ?ekt6 ?ekt7 ?ekt8 ?ekv ?z0 ?z1 ?z2 ?z3 ?z4 ?z5 ?z6
    (case a0 => k_is)
    (case l0 => k_is)
    (case c0 => k_is)
    (case k0 => k_is)
    (case a1 => k_is)
    (case l1 => k_is)
    (case c1 => k_is)
    (case k1 => k_is)
    (case a2 => k_is)
    (case l2 => k_is)
    (case c2 => k_is)
    (case k2 => k_is)
    (case a3 => k_is)
    (case l3 => k_is)
    (case c3 => k_is)
    (case k3 => k_is)
    (case a4 => k_is)
    (case l4 => k_is)
    (case c4 => k_is)
    (case k4 => k_is)
    (case xg0 => k_is)
    (case xg1 => k_is)
    (case xg2 => k_is)
    (case xg3 => k_is)
    (case xg4 => k_is)
    (case xg5 => k_is)
    (case xg6 => k_is)
    (case xg7 => k_is)
    (case xg8 => k_is)
    (case xgE => k_is)
    (case xe1 => k_is)
    (case xe2 => k_is)
    (case xe3 => k_is)
    (case yn => k_is)
    (case yt => k_is)
    (case xl0 => k_is)
    (case xr0 => first | rfl | decide +kernel)
    (case xsa0 => k_is)
    (case xex0 => k_is)
    (case xty0 => k_is)
    (case xk0 => k_is)
    (case xga0 => k_is)
    (case xgt0 => k_is)
    (case xhd0 => k_is)
    (case xcl0 => k_is)
    (case xmo0 => k_is)
    (case xno0 => k_is)
    (case xi0 => k_is)
    (case xti0 => k_is)
    (case xfl0 => k_is)
    (case xfc0 => k_is)
    (case xfk0 => k_is)
    (case xkE0 => first | kit_is | k_is | decide +kernel)
    (case xkt00 => first | kit_is | k_is | decide +kernel)
    (case xkt01 => first | kit_is | k_is | decide +kernel)
    (case xkt02 => first | kit_is | k_is | decide +kernel)
    (case xkt03 => first | kit_is | k_is | decide +kernel)
    (case xkt04 => first | kit_is | k_is | decide +kernel)
    (case xkt05 => first | kit_is | k_is | decide +kernel)
    (case xkt06 => first | kit_is | k_is | decide +kernel)
    (case xkt07 => first | kit_is | k_is | decide +kernel)
    (case xkt08 => first | kit_is | k_is | decide +kernel)
    (case xkv0 => first | kit_is | k_is | decide +kernel)
    (case xl1 => k_is)
    (case xr1 => first | rfl | decide +kernel)
    (case xsa1 => k_is)
    (case xex1 => k_is)
    (case xty1 => k_is)
    (case xk1 => k_is)
    (case xga1 => k_is)
    (case xgt1 => k_is)
    (case xhd1 => k_is)
    (case xcl1 => k_is)
    (case xmo1 => k_is)
    (case xno1 => k_is)
    (case xi1 => k_is)
    (case xti1 => k_is)
    (case xfl1 => k_is)
    (case xfc1 => k_is)
    (case xfk1 => k_is)
    (case xkE1 => first | kit_is | k_is | decide +kernel)
    (case xkt10 => first | kit_is | k_is | decide +kernel)
    (case xkt11 => first | kit_is | k_is | decide +kernel)
    (case xkt12 => first | kit_is | k_is | decide +kernel)
    (case xkt13 => first | kit_is | k_is | decide +kernel)
    (case xkt14 => first | kit_is | k_is | decide +kernel)
    (case xkt15 => first | kit_is | k_is | decide +kernel)
    (case xkt16 => first | kit_is | k_is | decide +kernel)
    (case xkt17 => first | kit_is | k_is | decide +kernel)
    (case xkt18 => first | kit_is | k_is | decide +kernel)
    (case xkv1 => first | kit_is | k_is | decide +kernel)
    (case xl2 => k_is)
    (case xr2 => first | rfl | decide +kernel)
    (case xsa2 => k_is)
    (case xex2 => k_is)
    (case xty2 => k_is)
    (case xk2 => k_is)
    (case xga2 => k_is)
    (case xgt2 => k_is)
    (case xhd2 => k_is)
    (case xcl2 => k_is)
    (case xmo2 => k_is)
    (case xno2 => k_is)
    (case xi2 => k_is)
    (case xti2 => k_is)
    (case xfl2 => k_is)
    (case xfc2 => k_is)
    (case xfk2 => k_is)
    (case xkE2 => first | kit_is | k_is | decide +kernel)
    (case xkt20 => first | kit_is | k_is | decide +kernel)
    (case xkt21 => first | kit_is | k_is | decide +kernel)
    (case xkt22 => first | kit_is | k_is | decide +kernel)
    (case xkt23 => first | kit_is | k_is | decide +kernel)
    (case xkt24 => first | kit_is | k_is | decide +kernel)
    (case xkt25 => first | kit_is | k_is | decide +kernel)
    (case xkt26 => first | kit_is | k_is | decide +kernel)
    (case xkt27 => first | kit_is | k_is | decide +kernel)
    (case xkt28 => first | kit_is | k_is | decide +kernel)
    (case xkv2 => first | kit_is | k_is | decide +kernel)
    (case xl3 => k_is)
    (case xr3 => first | rfl | decide +kernel)
    (case xsa3 => k_is)
    (case xex3 => k_is)
    (case xty3 => k_is)
    (case xk3 => k_is)
    (case xga3 => k_is)
    (case xgt3 => k_is)
    (case xhd3 => k_is)
    (case xcl3 => k_is)
    (case xmo3 => k_is)
    (case xno3 => k_is)
    (case xi3 => k_is)
    (case xti3 => k_is)
    (case xfl3 => k_is)
    (case xfc3 => k_is)
    (case xfk3 => k_is)
    (case xkE3 => first | kit_is | k_is | decide +kernel)
    (case xkt30 => first | kit_is | k_is | decide +kernel)
    (case xkt31 => first | kit_is | k_is | decide +kernel)
    (case xkt32 => first | kit_is | k_is | decide +kernel)
    (case xkt33 => first | kit_is | k_is | decide +kernel)
    (case xkt34 => first | kit_is | k_is | decide +kernel)
    (case xkt35 => first | kit_is | k_is | decide +kernel)
    (case xkt36 => first | kit_is | k_is | decide +kernel)
    (case xkt37 => first | kit_is | k_is | decide +kernel)
    (case xkt38 => first | kit_is | k_is | decide +kernel)
    (case xkv3 => first | kit_is | k_is | decide +kernel)
    (case xl4 => k_is)
    (case xr4 => first | rfl | decide +kernel)
    (case xsa4 => k_is)
    (case xex4 => k_is)
    (case xty4 => k_is)
    (case xk4 => k_is)
    (case xga4 => k_is)
    (case xgt4 => k_is)
    (case xhd4 => k_is)
    (case xcl4 => k_is)
    (case xmo4 => k_is)
    (case xno4 => k_is)
    (case xi4 => k_is)
    (case xti4 => k_is)
    (case xfl4 => k_is)
    (case xfc4 => k_is)
    (case xfk4 => k_is)
    (case xkE4 => first | kit_is | k_is | decide +kernel)
    (case xkt40 => first | kit_is | k_is | decide +kernel)
    (case xkt41 => first | kit_is | k_is | decide +kernel)
    (case xkt42 => first | kit_is | k_is | decide +kernel)
    (case xkt43 => first | kit_is | k_is | decide +kernel)
    (case xkt44 => first | kit_is | k_is | decide +kernel)
    (case xkt45 => first | kit_is | k_is | decide +kernel)
    (case xkt46 => first | kit_is | k_is | decide +kernel)
    (case xkt47 => first | kit_is | k_is | decide +kernel)
    (case xkt48 => first | kit_is | k_is | decide +kernel)
    (case xkv4 => first | kit_is | k_is | decide +kernel)
    (case xl5 => k_is)
    (case xr5 => first | rfl | decide +kernel)
    (case xsa5 => k_is)
    (case xex5 => k_is)
    (case xty5 => k_is)
    (case xk5 => k_is)
    (case xga5 => k_is)
    (case xgt5 => k_is)
    (case xhd5 => k_is)
    (case xcl5 => k_is)
    (case xmo5 => k_is)
    (case xno5 => k_is)
    (case xi5 => k_is)
    (case xti5 => k_is)
    (case xfl5 => k_is)
    (case xfc5 => k_is)
    (case xfk5 => k_is)
    (case xkE5 => first | kit_is | k_is | decide +kernel)
    (case xkt50 => first | kit_is | k_is | decide +kernel)
    (case xkt51 => first | kit_is | k_is | decide +kernel)
    (case xkt52 => first | kit_is | k_is | decide +kernel)
    (case xkt53 => first | kit_is | k_is | decide +kernel)
    (case xkt54 => first | kit_is | k_is | decide +kernel)
    (case xkt55 => first | kit_is | k_is | decide +kernel)
    (case xkt56 => first | kit_is | k_is | decide +kernel)
    (case xkt57 => first | kit_is | k_is | decide +kernel)
    (case xkt58 => first | kit_is | k_is | decide +kernel)
    (case xkv5 => first | kit_is | k_is | decide +kernel)
    (case xl6 => k_is)
    (case xr6 => first | rfl | decide +kernel)
    (case xsa6 => k_is)
    (case xex6 => k_is)
    (case xty6 => k_is)
    (case xk6 => k_is)
    (case xga6 => k_is)
    (case xgt6 => k_is)
    (case xhd6 => k_is)
    (case xcl6 => k_is)
    (case xmo6 => k_is)
    (case xno6 => k_is)
    (case xi6 => k_is)
    (case xti6 => k_is)
    (case xfl6 => k_is)
    (case xfc6 => k_is)
    (case xfk6 => k_is)
    (case xkE6 => first | kit_is | k_is | decide +kernel)
    (case xkt60 => first | kit_is | k_is | decide +kernel)
    (case xkt61 => first | kit_is | k_is | decide +kernel)
    (case xkt62 => first | kit_is | k_is | decide +kernel)
    (case xkt63 => first | kit_is | k_is | decide +kernel)
    (case xkt64 => first | kit_is | k_is | decide +kernel)
    (case xkt65 => first | kit_is | k_is | decide +kernel)
    (case xkt66 => first | kit_is | k_is | decide +kernel)
    (case xkt67 => first | kit_is | k_is | decide +kernel)
    (case xkt68 => first | kit_is | k_is | decide +kernel)
    (case xkv6 => first | kit_is | k_is | decide +kernel)
    (case xl7 => k_is)
    (case xr7 => first | rfl | decide +kernel)
    (case xsa7 => k_is)
    (case xex7 => k_is)
    (case xty7 => k_is)
    (case xk7 => k_is)
    (case xga7 => k_is)
    (case xgt7 => k_is)
    (case xhd7 => k_is)
    (case xcl7 => k_is)
    (case xmo7 => k_is)
    (case xno7 => k_is)
    (case xi7 => k_is)
    (case xti7 => k_is)
    (case xfl7 => k_is)
    (case xfc7 => k_is)
    (case xfk7 => k_is)
    (case xkE7 => first | kit_is | k_is | decide +kernel)
    (case xkt70 => first | kit_is | k_is | decide +kernel)
    (case xkt71 => first | kit_is | k_is | decide +kernel)
    (case xkt72 => first | kit_is | k_is | decide +kernel)
    (case xkt73 => first | kit_is | k_is | decide +kernel)
    (case xkt74 => first | kit_is | k_is | decide +kernel)
    (case xkt75 => first | kit_is | k_is | decide +kernel)
    (case xkt76 => first | kit_is | k_is | decide +kernel)
    (case xkt77 => first | kit_is | k_is | decide +kernel)
    (case xkt78 => first | kit_is | k_is | decide +kernel)
    (case xkv7 => first | kit_is | k_is | decide +kernel)
    (case xl8 => k_is)
    (case xr8 => first | rfl | decide +kernel)
    (case xsa8 => k_is)
    (case xex8 => k_is)
    (case xty8 => k_is)
    (case xk8 => k_is)
    (case xga8 => k_is)
    (case xgt8 => k_is)
    (case xhd8 => k_is)
    (case xcl8 => k_is)
    (case xmo8 => k_is)
    (case xno8 => k_is)
    (case xi8 => k_is)
    (case xti8 => k_is)
    (case xfl8 => k_is)
    (case xfc8 => k_is)
    (case xfk8 => k_is)
    (case xkE8 => first | kit_is | k_is | decide +kernel)
    (case xkt80 => first | kit_is | k_is | decide +kernel)
    (case xkt81 => first | kit_is | k_is | decide +kernel)
    (case xkt82 => first | kit_is | k_is | decide +kernel)
    (case xkt83 => first | kit_is | k_is | decide +kernel)
    (case xkt84 => first | kit_is | k_is | decide +kernel)
    (case xkt85 => first | kit_is | k_is | decide +kernel)
    (case xkt86 => first | kit_is | k_is | decide +kernel)
    (case xkt87 => first | kit_is | k_is | decide +kernel)
    (case xkt88 => first | kit_is | k_is | decide +kernel)
    (case xkv8 => first | kit_is | k_is | decide +kernel)
    (case ega => k_is)
    (case egt => k_is)
    (case ecl => k_is)
    (case emo => k_is)
    (case eno => k_is)
    (case ekp => k_is)
    (case eex => first | k_exc | k_is | decide +kernel)
    (case ekt0 => first | kit_is | k_is | decide +kernel)
    (case ekt1 => first | kit_is | k_is | decide +kernel)
    (case ekt2 => first | kit_is | k_is | decide +kernel)
    (case ekt3 => first | kit_is | k_is | decide +kernel)
    (case ekt4 => first | kit_is | k_is | decide +kernel)
    (case ekt5 => first | kit_is | k_is | decide +kernel)
    (case ekt6 => first | kit_is | k_is | decide +kernel)
    (case ekt7 => first | kit_is | k_is | decide +kernel)
    (case ekt8 => first | kit_is | k_is | decide +kernel)
    (case ekv => first | kit_is | k_is | decide +kernel)
    (case z0 => k_is)
    (case z1 => k_is)
    (case z2 => k_is)
    (case z3 => k_is)
    (case z4 => k_is)
    (case z5 => k_is)
    (case z6 => k_is)
