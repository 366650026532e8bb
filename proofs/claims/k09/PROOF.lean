import PyProof.Rows.All
import Wide.All
import OpenK.AllK
import Wide.FinOn
import HandS.Base
import HandS.Call
import HandS.Comp
import HandS.Deep
import HandS.Defaults
import HandS.Dict
import HandS.DictComp
import HandS.DictEq
import HandS.Ends
import HandS.Evl
import HandS.Exc
import HandS.ExcField
import HandS.ExcInit
import HandS.ExcIs
import HandS.ExcOwn
import HandS.ExcValue
import HandS.IsInst
import HandS.Iter
import HandS.List
import HandS.More
import HandS.RaiseMore
import HandS.Style
import HandS.Text
import HandS.TryOnly
import HandS.TupAny
import HandS.Walk
import HandS.Wide
import HandS.Words
import HandS.WordsExc
import HandS.Zip
import KE.GoesEnum
import KE.KDictZip
import KE.KExcIs
import PyProof.CallFns
import PyProof.ReprLen
import PyProof.ReprRoads
import PySem.Challenge.RW_castforms_k09_types_of_expressions
set_option Elab.async false
set_option linter.all false
set_option exponentiation.threshold 20000
set_option maxRecDepth 100000
set_option maxHeartbeats 8000000
namespace Cf
open PySem PySem.Spec PyProof.Rows L2

/-! ## defs that know that no repr is under way (guards) -/
structure FnG (P : Program) (w : World) (K : PySem.W.Frag) (mg : Str → Option Value) (base : Heap) (CX : CXT) (k : Nat) (f : Addr)
    (fd : FuncData) (ps : List Str) (sp : Sp) : Prop where
  len : ∀ vs H Q E, sp vs H Q E → vs.length = ps.length
  run : ∀ (A : Around) (outer : List Env) (s : Shared) (H : Hp) (args : Args) (us : List Value) (vs : List V) (Q : VK) (E : XK),
    A.guards = some [] → Room k A → Env0 P w K mg base A outer s H → BindsTo s fd args (ps.zip us) → Vals vs us → sp vs H Q E →
    codeAny (model P w) A (.call (.ref f) args) (CR CX outer P w H s Q E) s
section
variable {P : Program} {w : World} {K : PySem.W.Frag} {mg : Str → Option Value} {base : Heap} {CX : CXT}
theorem FnG.of {k : Nat} {f : Addr} {fd : FuncData} {ps : List Str} {sp : Sp} (F : FnOk P w K mg base CX k f fd ps sp) : FnG P w K mg base CX k f fd ps sp :=
  ⟨F.len, fun A outer s H args us vs Q E _ => F.run A outer s H args us vs Q E⟩
theorem FnG.mono {j k : Nat} {f : Addr} {fd : FuncData} {ps : List Str} {sp : Sp} (F : FnG P w K mg base CX j f fd ps sp) (h : j ≤ k) : FnG P w K mg base CX k f fd ps sp :=
  ⟨F.len, fun A outer s H args us vs Q E hg hr => F.run A outer s H args us vs Q E hg (hr.mono h)⟩
theorem FnG.imp {k : Nat} {f : Addr} {fd : FuncData} {ps : List Str} {sp sp2 : Sp} (F : FnG P w K mg base CX k f fd ps sp)
    (h : ∀ vs H Q E, sp2 vs H Q E → sp vs H Q E) : FnG P w K mg base CX k f fd ps sp2 :=
  ⟨fun vs H Q E q => F.len vs H Q E (h _ _ _ _ q), fun A outer s H args us vs Q E hg hr he hb hv hs => F.run A outer s H args us vs Q E hg hr he hb hv (h _ _ _ _ hs)⟩
end

section
variable {X : Cx} {CX : CXT} {k : Nat} {f : Addr} {fd : FuncData} {ps ks : List Str} {sp : Sp} {dvs : List V} {ds : List Value} {E : XK} {x : Str}
  {p pos : Pos} {e : Expr} {es : List Expr} {kws : List Keyword} {t tk : TA} {g : List Value → List Value → List Value} {gV : List V → List V → List V}
  {pins : List (Addr × Obj)} {σ : L2.St} {H : Hp} {s : Shared} {Q : VK}
/-- how a call's result is handed on -/
theorem ends_call {r : Result} {s' : Shared} (I : Inv X pins σ H s) (hx : Passes CX X E) (hq : CR CX X.stack X.prog X.w H s Q E r s') :
    match r with | .ok (.ret u) => EP X pins σ Q u s' | .ok _ => False | .error er => X.xe er s' := by
  match r, hq with
  | .error er, hq => exact hx pins σ H s er s' I hq
  | .ok (.ret u), hq => exact I.after hq
theorem run_g {us : List Value} {vs : List V} (F : FnG X.prog X.w X.K X.mg X.base CX k f fd ps sp) (hG : X.A.guards = some []) (hr : Room k X.A)
    (hb : Binds X.K fd ps ds) (hd : Vals dvs ds) (hx : Passes CX X E) (I : Inv X pins σ H s) (rv : Vals vs us) (hs : sp (vs ++ dvs) H Q E) :
    wpAny (model X.prog X.w) X.A (call (.ref f) us) (EP X pins σ Q) X.xe s := by
  have rr : Vals (vs ++ dvs) (us ++ ds) := rv.append hd
  have el : (us ++ ds).length = ps.length := (rr.length).symm.trans (F.len _ _ _ _ hs)
  refine wpAny_call (codeAny_mono (F.run X.A X.stack s H ⟨us, []⟩ (us ++ ds) (vs ++ dvs) Q E hG hr I.env0 (hb s us I.kIn el) rr hs) fun r s' q => ?_)
  have q2 := ends_call I hx q
  revert q2
  match r with
  | .error er => exact id
  | .ok (.ret u) => exact id
  | .ok .next => exact False.elim
  | .ok .brk => exact False.elim
  | .ok .cont => exact False.elim
theorem pe_g (F : FnG X.prog X.w X.K X.mg X.base CX k f fd ps sp) (hG : X.A.guards = some []) (hr : Room k X.A) (hg : Gl X x) (hm : X.mg x = some (.ref f))
    (hk : PySem.W.keepIn X.K (.ref f) = true) (hb : Binds X.K fd ps ds) (hd : Vals dvs ds) (hx : Passes CX X E) (ha : PA X (e :: es) t)
    (hdb : (x == ("__debug__" : Str)) = false := by decide)
    (he : starEach (e :: es) X.env = (false, eval e X.env) :: starEach es X.env := by rfl)
    (hpl : (backTo pos (starEach es X.env)).any (·.1) = false := by rfl) : PE X (.Call (.Name x p) (e :: es) [] pos) (tCall sp dvs E t) := by
  constructor
  intro pins s σ H Q I h
  refine wpAny_Call_Name_kw (ld_glob I hg hm ?_ hdb)
  have step := thn (ha.run pos pins s σ H _ I h) (Q' := fun us s1 => X.K.In s1.heap ∧ wpAny (model X.prog X.w) X.A (call (.ref f) us) (EP X pins σ Q) X.xe s1) fun us s1 hh => by
    obtain ⟨vs, H1, I1, r, q⟩ := hh
    exact ⟨I1.kIn, run_g F hG hr hb hd hx I1 r q⟩
  exact PySem.W.callWith_K (h₀ := X.base) I.ok.mod.kin hk step he hpl
theorem pe_g0 (F : FnG X.prog X.w X.K X.mg X.base CX k f fd ps sp) (hG : X.A.guards = some []) (hr : Room k X.A) (hg : Gl X x) (hm : X.mg x = some (.ref f))
    (hk : PySem.W.keepIn X.K (.ref f) = true) (hb : Binds X.K fd ps ds) (hd : Vals dvs ds) (hx : Passes CX X E)
    (hdb : (x == ("__debug__" : Str)) = false := by decide) : PE X (.Call (.Name x p) [] [] pos) (tCall sp dvs E tNil) := by
  constructor
  intro pins s σ H Q I h
  refine wpAny_Call_Name_kw (ld_glob I hg hm ?_ hdb)
  exact PySem.W.callWith_K0 I.kIn hk (run_g (us := []) F hG hr hb hd hx I .nil h)
theorem run_gk {us ws : List Value} {vs zs : List V} (F : FnG X.prog X.w X.K X.mg X.base CX k f fd ps sp) (hG : X.A.guards = some []) (hr : Room k X.A)
    (hb : KBinds X.K fd ps ks g gV) (hx : Passes CX X E) (I : Inv X pins σ H s) (rv : Vals vs us) (rz : Vals zs ws) (hs : sp (gV vs zs) H Q E) :
    wpAny (model X.prog X.w) X.A (call (.ref f) us (ks.zip ws)) (EP X pins σ Q) X.xe s := by
  have rr := hb.rel rv rz
  have el : (g us ws).length = ps.length := (rr.length).symm.trans (F.len _ _ _ _ hs)
  refine wpAny_call (codeAny_mono (F.run X.A X.stack s H ⟨us, ks.zip ws⟩ (g us ws) (gV vs zs) Q E hG hr I.env0 (hb.to s us ws I.kIn el) rr hs) fun r s' q => ?_)
  have q2 := ends_call I hx q
  revert q2
  match r with
  | .error er => exact id
  | .ok (.ret u) => exact id
  | .ok .next => exact False.elim
  | .ok .brk => exact False.elim
  | .ok .cont => exact False.elim
end
end Cf

namespace Cf
open PySem PySem.Spec PyProof.Rows L2

section
variable {X : Cx} {CX : CXT} {k n : Nat} {f : Addr} {fd : FuncData} {ps ks : List Str} {sp : Sp} {E : XK} {x : Str} {p pos : Pos} {e : Expr} {es : List Expr}
  {kws : List Keyword} {t tk : TA} {g : List Value → List Value → List Value} {gV : List V → List V → List V}
/-- keywords alone: a call whose arguments all are named; g orders them -/
def tKw (m : Nat) (sp : Sp) (gV : List V → List V) (E : XK) (tk : TA) : TE := fun σ H Q => tk σ H fun zs H2 => zs.length = m ∧ sp (gV zs) H2 Q E
structure KwB (K : PySem.W.Frag) (fd : FuncData) (ps ks : List Str) (g : List Value → List Value) (gV : List V → List V) : Prop where
  to : ∀ (s : Shared) (ws : List Value), K.In s.heap → ws.length = ks.length → BindsTo s fd ⟨[], ks.zip ws⟩ (ps.zip (g ws))
  rel : ∀ {zs : List V} {ws : List Value}, zs.length = ks.length → Vals zs ws → Vals (gV zs) (g ws)
variable {g1 : List Value → List Value} {gV1 : List V → List V}
theorem pe_gkw (F : FnG X.prog X.w X.K X.mg X.base CX k f fd ps sp) (hG : X.A.guards = some []) (hr : Room k X.A) (hg : Gl X x) (hm : X.mg x = some (.ref f))
    (hk : PySem.W.keepIn X.K (.ref f) = true) (hb : KwB X.K fd ps ks g1 gV1) (hx : Passes CX X E) (hkw : PK X kws tk)
    (hall : (backToKw pos (keywordEach kws X.env)).all (·.1.isSome) = true := by rfl)
    (hks : (backToKw pos (keywordEach kws X.env)).filterMap (·.1) = ks := by rfl)
    (hdb : (x == ("__debug__" : Str)) = false := by decide)
    (hpl : ((backTo pos (starEach [] X.env)).any (·.1) || (backToKw pos (keywordEach kws X.env)).any (·.1.isNone)) = false := by rfl) :
    PE X (.Call (.Name x p) [] kws pos) (tKw ks.length sp gV1 E tk) := by
  constructor
  intro pins s σ H Q I h
  refine wpAny_Call_Name_kw (ld_glob I hg hm ?_ hdb)
  refine PySem.W.callWith_KW0 (h₀ := X.base) I.ok.mod.kin hk hall (thn (hkw.run pos pins s σ H _ I h) fun ws s2 hh => ?_) hpl
  obtain ⟨zs, H2, I2, rz, l2, q2⟩ := hh
  refine ⟨I2.kIn, ?_⟩
  rw [hks]
  have lw : ws.length = ks.length := rz.length.symm.trans l2
  have rr := hb.rel l2 rz
  refine wpAny_call (codeAny_mono (F.run X.A X.stack s2 H2 ⟨[], ks.zip ws⟩ (g1 ws) (gV1 zs) Q E hG hr I2.env0 (hb.to s2 ws I2.kIn lw) rr q2) fun r s' q => ?_)
  have q3 := ends_call I2 hx q
  revert q3
  match r with
  | .error er => exact id
  | .ok (.ret u) => exact id
  | .ok .next => exact False.elim
  | .ok .brk => exact False.elim
  | .ok .cont => exact False.elim
end

/-! ## repr of data -/
section
variable {X : Cx}
def rRepr (K : PySem.W.Frag) : List V → Hp → VK → Prop := fun xs H Q => ∃ (a : Addr) (d : PyData), xs = [.ref a] ∧ Dp K H (.ref a) d ∧ d.showable = true ∧ d.hasDict = false ∧
  d.shown.length ≤ sizeLine ∧ d.depth ≤ 60 ∧ Q (.str d.shown) H
theorem call_repr (hG : X.A.guards = some []) (hu : X.A.units + 64 < cLine) : CallR X (.builtin "repr") (rRepr X.K) := by
  intro pins s σ H xs us Q I r h
  obtain ⟨a, d, rfl, hd, hs, hn, hz, hp, q⟩ := h
  obtain ⟨u, rfl, rx⟩ := vals1 r
  obtain ⟨as, rd⟩ := Dp.reads I d _ u hd rx
  obtain rfl : u = Value.ref a := rx
  refine repr_of_reads' rd hs (fun z => by rw [hn] at z; cases z) hG (by omega) (fun b o e => e) (fun h' u tk kp => ?_) hz
  exact ⟨.str d.shown, H, I.kept kp, ⟨u, rfl⟩, q⟩
/-- a ** b of great numbers -/
def CPowW (i j : Int) : Prop := 0 ≤ j ∧ j ≤ 100 ∧ i.natAbs.log2 < 100000
theorem op_powW : OpR X (binaryOp .Pow) (rI CPowW fun i j => .int (i ^ j.toNat)) := opI fun i j _ _ _ _ _ hc q => by
  obtain ⟨h0, h1, h2⟩ := hc
  refine pow_int h0 ?_ q
  have hb : Builtin.Int.intBits i ≤ i.natAbs.log2 + 1 := by
    unfold Builtin.Int.intBits
    split <;> omega
  have h3 : (Builtin.Int.intBits i : Int) ≤ 100000 := by omega
  have h4 : (Builtin.Int.intBits i : Int) * j ≤ 100000 * 100 := Int.mul_le_mul h3 h1 h0 (by decide)
  have h5 : (100000 * 100 : Int) ≤ 2 ^ 27 := by decide
  omega
end

/-! ## enumerate of a tuple -/
set_option maxHeartbeats 4000000 in
theorem meets_enum_tup (v : Addr) (items : Array Value) :
    Meets (Builtin.«enumerate.__new__» ⟨[.type "enumerate", .ref v], []⟩) (fun _ R s => s.heap.IsTuple v items ∧
      R (.ok (.ret (.ref (s.heap.push { cls := .type "tuple_iterator", data := .fields #[.ref v, .int 0 0] }).objs.size)))
        { s with heap := (s.heap.push { cls := .type "tuple_iterator", data := .fields #[.ref v, .int 0 0] }).push { cls := .type "enumerate", data := .fields #[.none, .bool false, .ref s.heap.objs.size, rawInt 0, .none, .none] } }) :=
  .of_wp fun prog w A R s h => by
    obtain ⟨hp, gg, dd, tk, os⟩ := s
    obtain ⟨h1, h⟩ := h
    have hsub := sub_enumerate
    have q1 : ∀ {A2 : Around} {E2 : Value → Shared → Prop} {Q2 : Value → Shared → Prop}, Q2 (.ref hp.objs.size) ⟨hp.push { cls := .type "tuple_iterator", data := .fields #[.ref v, .int 0 0] }, gg, dd, tk, os⟩ →
        wpAny (model prog w) A2 (pyIter (.ref v)) Q2 E2 ⟨hp, gg, dd, tk, os⟩ := fun q => wpAny_pyIter_tuple (s := ⟨hp, gg, dd, tk, os⟩) h1 q
    wp_walk using q1
    refine wpAny_stack_any fun st => wpAny_pure ?_
    split
    · rename_i c _ _ _ _ _
      cases (c == Value.type "enumerate")
      · wp_walk using q1
        exact ⟨_, rfl, h⟩
      · wp_walk using q1
        exact ⟨_, rfl, h⟩
    · wp_walk using q1
      exact ⟨_, rfl, h⟩
theorem call_enum_tup {prog : Program} {w : World} {A : Around} {E : Value → Shared → Prop} {s : Shared} {l : Addr} {items : Array Value} {Q : Value → Shared → Prop} (hL : s.heap.IsTuple l items)
    (h : ∀ h', IsEnum h' (s.heap.objs.size + 1) s.heap.objs.size 0 .none → h'.IsTupleIter s.heap.objs.size l 0 → h'.objs.size = s.heap.objs.size + 2 →
      (∀ b o, s.heap.get? b = some o → h'.get? b = some o) → Q (.ref (s.heap.objs.size + 1)) { s with heap := h' }) :
    wpAny (model prog w) A (call (.type "enumerate") [.ref l]) Q E s := by
  refine callType_new F.called_enumerate (by decide) (F.typeCall_enumerate_1 _) (F.newCall_enumerate_1 _) (fun obj => F.args_object_init_2 obj _) F.entry_enumerate_new
    (meets_enum_tup l items) ⟨hL, ?_⟩
  have z1 : (s.heap.push { cls := .type "tuple_iterator", data := .fields #[.ref l, .int 0 0] }).objs.size = s.heap.objs.size + 1 := Heap.size_push ..
  show _ ∧ _
  rw [z1]
  have z2 : IsEnum ((s.heap.push { cls := .type "tuple_iterator", data := .fields #[.ref l, .int 0 0] }).push
      { cls := .type "enumerate", data := .fields #[.none, .bool false, .ref s.heap.objs.size, rawInt 0, .none, .none] }) (s.heap.objs.size + 1) s.heap.objs.size 0 .none := by
    have z3 := Heap.get?_push_size (s.heap.push { cls := .type "tuple_iterator", data := .fields #[.ref l, .int 0 0] })
      (o := { cls := .type "enumerate", data := .fields #[.none, .bool false, .ref s.heap.objs.size, rawInt 0, .none, .none] }) rfl
    rw [z1] at z3
    exact z3
  refine ⟨⟨_, z2, rfl⟩, h _ z2 ⟨_, Heap.get?_push_of_some _ (Heap.get?_push_size _ rfl), rfl, rfl⟩ ?_ fun b o q => Heap.get?_push_of_some _ (Heap.get?_push_of_some _ q)⟩
  rw [Heap.size_push, z1]
end Cf

namespace Cf
open PySem PySem.Spec PyProof.Rows L2

/-- what enumerate of the tuple at a gives: each item in a new pair -/
def IteT (K : PySem.W.Frag) (a : Addr) : It :=
  ⟨fun i H => ∃ (xs : List V) (x : V), SqT K H a xs ∧ xs[i]? = some x,
    fun i H v H' => ∃ T x, v = .ref T ∧ H T = none ∧ H' = upd H T (.tup [.int (i : Nat), x]) ∧ ∀ xs, SqT K H a xs → xs[i]? = some x,
    fun i H => ∃ xs : List V, SqT K H a xs ∧ xs.length = i⟩
theorem turn_enumT {P : Program} {w : World} {K : PySem.W.Frag} {elts : List Expr} {kk : Nat} {tpos : Pos} (a e it : Addr) :
    Turn P w K (.Tuple elts kk tpos) (IteT K a) [e, it] e (fun i h => (∃ old, IsEnum h e it ((i : Nat) : Int) old) ∧ h.IsTupleIter it a i ∧ e ≠ it ∧ a ≠ it ∧ a ≠ e) where
  mem := by simp
  obj := fun i h st b hb => by
    obtain ⟨⟨old, he⟩, ⟨o, ho, hc, hd⟩, _⟩ := st
    have e' : b = e ∨ b = it := by simpa using hb
    rcases e' with z | z
    · rw [z]
      exact ⟨_, he, fun v q => nomatch q⟩
    · rw [z]
      exact ⟨o, ho, fun v q => by rw [hd] at q; cases q⟩
  keep := fun i h h' st kp => by
    obtain ⟨⟨old, he⟩, hi, hne⟩ := st
    exact ⟨⟨old, kp e (by simp) _ he⟩, hi.at fun o q => kp it (by simp) o q, hne⟩
  item := by
    intro X hP hw hK hc i pins s σ H E I hf st hg
    subst hP hw hK
    obtain ⟨⟨old, he⟩, hit, hne, hai, hae⟩ := st
    obtain ⟨xs, x, hq, hx⟩ := hg
    obtain ⟨its, rv, p, hz⟩ := I.tuple hq
    obtain ⟨u, hu, ru⟩ := rv.get hx
    have hel : e < s.heap.objs.size := Heap.lt_size he
    have hil : it < s.heap.objs.size := by
      obtain ⟨_, q, _⟩ := hit
      exact Heap.lt_size q
    have hlt : i < its.toArray.size := by
      have := (List.getElem?_eq_some_iff.mp hu).1
      simpa using this
    refine wpAny_pyNext_enum_itemD (Draws.tuple (prog := X.prog) (w := X.w) (A := X.A.in1) (I.ok.hd hc) it a hai its.toArray) he ⟨hit, p⟩ hlt hne (by
      intro z
      rcases List.mem_cons.mp z with z | z
      · exact hne z
      · exact hae (List.mem_singleton.mp z).symm) fun y h' tk hy ho hst hT hsz hk => ?_
    have ey : y = u := by
      have hy2 : its[i]? = some y := by simpa using hy
      exact Option.some.inj (hy2.symm.trans hu)
    subst ey
    refine ⟨_, rfl, wpAny_letOwnedTupleGo_enum (s := { s with heap := h', toks := tk + 1 }) ho fun h'' he' sb => ?_⟩
    have hT2 : h''.get? s.heap.objs.size = some { cls := .type "tuple", data := .seq #[.int i tk, y] } := (sb.2 _ (Nat.ne_of_gt hel)).trans hT
    have new : ObjOk X.prog X.w (upd H s.heap.objs.size (.tup [.int (i : Nat), x])) h'' s.heap.objs.size (.tup [.int (i : Nat), x]) :=
      ⟨by show 2 ≤ sizeLine; decide, [.int i tk, y], .cons ⟨_, rfl⟩ (.cons ru .nil), ⟨_, hT2, rfl, _, rfl⟩⟩
    have I1 : Inv X pins σ (upd H s.heap.objs.size (.tup [.int (i : Nat), x])) { s with heap := h'', toks := tk + 1 } :=
      I.turnedNew (ch := [e, it]) (fun b ob hb q => (sb.2 b (fun z => hb (by simp [z]))).trans (hk b ob (fun z => hb (by simp [z])) (fun z => hb (by simp [z])) q)) hf (Nat.le_refl _) new
    refine ⟨.ref s.heap.objs.size, _, I1, rfl, ⟨_, x, rfl, I.hok.fresh (Nat.le_refl _), rfl, fun ys hy => ?_⟩, ⟨⟨y, ?_⟩, hst.1.at fun o q => (sb.2 it (Ne.symm hne)).trans q, hne, hai, hae⟩, fun b hb => ?_⟩
    · rw [I.tuple_inj hy hq]
      exact hx
    · have e1 : ((i + 1 : Nat) : Int) = (i : Int) + 1 := by omega
      rw [e1]
      simpa using he'
    · have hb' : b < s.heap.objs.size := by
        have e' : b = e ∨ b = it := by simpa using hb
        rcases e' with z | z
        · rw [z]; exact hel
        · rw [z]; exact hil
      rw [upd_ne (Nat.ne_of_lt hb')]
      exact (hf b hb).1
  done := by
    intro X hP hw hK hc i pins s σ H E I hf st hg
    subst hP hw hK
    obtain ⟨⟨old, he⟩, hit, hne, hai, hae⟩ := st
    obtain ⟨xs, hq, hx⟩ := hg
    obtain ⟨its, rv, p, hz⟩ := I.tuple hq
    obtain ⟨f0, f1, f2, f3, f4, f5⟩ := hf it (by simp)
    have hl := rv.length
    have hn : its.toArray.size = i := by
      rw [List.size_toArray]
      omega
    subst hn
    refine wpAny_pyNext_enum_endD (Draws.tuple (prog := X.prog) (w := X.w) (A := X.A.in1) (I.ok.hd hc) it a hai its.toArray) he ⟨hit, p⟩ fun h' eb => ?_
    exact ⟨rfl, I.turned (t' := s.toks) (fun b o hb q => eb b o hb q) f0 f1 f3 f4 f5⟩
  self := fun A i s Q E st h => by
    obtain ⟨⟨_, he⟩, _⟩ := st
    exact wpAny_pyIter_enum he h
def iEnumT (K : PySem.W.Frag) (ta : TA) : TI := fun σ H R => ta σ H fun vs H1 => ∃ a xs, vs = [.ref a] ∧ SqT K H1 a xs ∧ R (IteT K a) H1
theorem pi_enumT {X : Cx} {e : Expr} {ta : TA} {p pos tpos : Pos} {elts : List Expr} {kk : Nat} (hg : Gl X "enumerate") (hm : X.mg "enumerate" = none) (ha : PA X [e] ta)
    (hs : starEach [e] X.env = [(false, eval e X.env)] := by rfl) : PI X (.Tuple elts kk tpos) (.Call (.Name "enumerate" p) [e] [] pos) (iEnumT X.K ta) := by
  constructor
  intro pins s σ H R I h
  refine Call_ (ld_blt I hg hm boot_enumerate (PyProof.Rows.callWith_type1 (thn (ha.run pos pins s σ H _ I h) fun us s1 hh => ?_) hs rfl))
  obtain ⟨vs, H1, I1, r1, a, xs, ex, hq, q⟩ := hh
  subst ex
  cases r1 with
  | cons r rr =>
    cases rr
    cases r
    obtain ⟨its, rv, pt, hz⟩ := I1.tuple hq
    have ha1 : a < s1.heap.objs.size := pt.lt
    refine call_enum_tup pt fun h' he hit hsz hk => wpAny_pyIter_enum he ?_
    have I2 : Inv X pins σ H1 { s1 with heap := h' } := I1.kept (t' := s1.toks) hk
    refine ⟨s1.heap.objs.size + 1, [s1.heap.objs.size + 1, s1.heap.objs.size], _, _, H1, rfl, I2, turn_enumT a (s1.heap.objs.size + 1) s1.heap.objs.size,
      ⟨⟨.none, he⟩, hit, Nat.succ_ne_self _, Nat.ne_of_lt ha1, Nat.ne_of_lt (Nat.lt_succ_of_lt ha1)⟩, fun b hb => ?_, q⟩
    have e' : b = s1.heap.objs.size + 1 ∨ b = s1.heap.objs.size := by simpa using hb
    have hle : s1.heap.objs.size ≤ b := by
      rcases e' with z | z
      · rw [z]
        exact Nat.le_add_right _ _
      · rw [z]
        exact Nat.le_refl _
    exact I1.fpOk hle (I1.hok.fresh hle)

/-! ## a def's body keeps its promise, no repr under way -/
theorem fng_of {CX : CXT} {P : Program} {w : World} {K : PySem.W.Frag} {mg : Str → Option Value} {base : Heap} {k : Nat} {f : Addr} {name qual : Str} {params : Arguments} {body : List Stmt} {scope : Scope}
    {dV kV doc pm cdv ct oc : Value} {an od : Option Addr} {osl : Array (Option Value)} {N ps : List Str} {sp : Sp}
    (lk : K.lookup f = some ⟨oc, od, .func (PySem.W.fnOf name qual params body scope dV kV doc pm an cdv ct), osl⟩) (hcd : PySem.W.codeIn K cdv qual = true) (S : FnScope N ps scope)
    (len : ∀ vs H Q E, sp vs H Q E → vs.length = ps.length)
    (hbody : ∀ (A : Around) (outer : List Env) (s : Shared) (H : Hp) (vs : List V) (Q : VK) (E : XK), A.guards = some [] → Room k (A.deeper (envOfC qual scope s.heap.objs.size f cdv)) → sp vs H Q E →
      ∃ t, PSs (cxOf CX P w K mg base N qual scope f cdv A outer s H E) body t ∧ t { nx := fun _ H' => Q .non H', rt := Q } (start N vs) H) :
    FnG P w K mg base CX (k + 1) f (PySem.W.fnOf name qual params body scope dV kV doc pm an cdv ct) ps sp := by
  refine ⟨len, ?_⟩
  intro A outer s H args us vs Q E hG hr e0 hb rv hsp
  have kept : ∀ b o, base.get? b = some o → s.heap.get? b = some o := fun b o q => (e0.bs b o q).1
  have inK : K.In s.heap := e0.mod.kin.keeps kept
  have lim : s.heap.NoLimit := e0.mod.nolimit.keeps kept
  have kinds : ∀ y ∈ ps.zip us, scope.names.lookup y.1 = some .local ∨ (scope.names.lookup y.1 = some .cell ∧ ((cellsFrom (s.heap.objs.size + 1) scope.names []).lookup y.1).isSome = true) := by
    intro y hy
    have hp := (List.of_mem_zip (show (y.1, y.2) ∈ ps.zip us from hy)).1
    exact (S.par y.1 hp).imp id fun q => ⟨q, PySem.W.cellsFrom_some _ _ _ (.inl q)⟩
  refine codeAny_call_function hr.depth (inK _ _ lk) rfl S.co S.gen rfl (PySem.W.codeRec_of inK hcd) (hb _ _ _ _ ?_)
  refine wpAny_newFunctionEnv_cells S.kind kinds fun env henv s1 x => ?_
  subst henv
  obtain ⟨t, ht, hq⟩ := hbody A outer s H vs Q E hG (hr.deeper _) hsp
  have I : Inv (cxOf CX P w K mg base N qual scope f cdv A outer s H E) [] (start N vs) H s1 := inv_start S hr.hd e0 (len _ _ _ _ hsp) rv x
  refine ⟨lim.keeps x.toInCall.keep, codeAny_func (wpAny_mono (ht.run [] s1 (start N vs) H _ I hq) (fun fl s' hs => ?_) fun e s' hs => hs)⟩
  match fl, hs with
  | .ret u, ⟨v, σ', H', J, r, q⟩ => exact ⟨v, H', J.os, J.bare, J.base, J.hok, r, q⟩
  | .next, ⟨σ', H', J, q⟩ => exact ⟨V.non, H', J.os, J.bare, J.base, J.hok, (rfl : RelV .non Value.none), q⟩
  | .brk, ⟨_, _, _, q⟩ => exact False.elim q
  | .cont, ⟨_, _, _, q⟩ => exact False.elim q
section
variable {P : Program} {w : World} {K : PySem.W.Frag} {mg : Str → Option Value} {base : Heap}
theorem fun_okG {CX : CXT} {x qual : Str} {st : Stmt} {f : Addr} {fd : FuncData} {N ps : List Str} {k : Nat} {sp : Sp} (F : Fun K x qual st f fd) (S : FnScope N ps (defScope st)) (len : ∀ vs H Q E, sp vs H Q E → vs.length = ps.length)
    (hbody : ∀ (cdv : Value) (A : Around) (outer : List Env) (s : Shared) (H : Hp) (vs : List V) (Q : VK) (E : XK), A.guards = some [] → Room k (A.deeper (envOfC qual (defScope st) s.heap.objs.size f cdv)) → sp vs H Q E →
      ∃ t, PSs (cxOf CX P w K mg base N qual (defScope st) f cdv A outer s H E) (defBody st) t ∧ t { nx := fun _ H' => Q .non H', rt := Q } (start N vs) H) : FnG P w K mg base CX (k + 1) f fd ps sp := by
  obtain ⟨oc, od, kV, doc, pm, an, cdv, ct, osl, rfl, lk, hcd⟩ := F.ex
  exact fng_of lk hcd S len fun A outer s H vs Q E hG hr hsp => hbody cdv A outer s H vs Q E hG hr hsp
theorem fun_kw {x qual : Str} {st : Stmt} {f : Addr} {fd : FuncData} {ps ks : List Str} {g : List Value → List Value} {gV : List V → List V} (F : Fun K x qual st f fd)
    (h : ∀ (kV doc pm : Value) (an : Option Addr) (cdv ct : Value) (ws : List Value), ws.length = ks.length → bindArgs (PySem.W.fnOf x qual (defArgs st) (defBody st) (defScope st) .none kV doc pm an cdv ct) ⟨[], ks.zip ws⟩ = pure (ps.zip (g ws)))
    (rel : ∀ {zs : List V} {ws : List Value}, zs.length = ks.length → Vals zs ws → Vals (gV zs) (g ws)) : KwB K fd ps ks g gV := by
  obtain ⟨oc, od, kV, doc, pm, an, cdv, ct, osl, rfl, lk, hcd⟩ := F.ex
  exact ⟨fun s ws _ hl => .of_eq (h kV doc pm an cdv ct ws hl), rel⟩
end
end Cf

namespace Cf
open PySem PySem.Spec PyProof.Rows L2

/-- from an abstract heap in which nothing but the script may be tracked -/
theorem lawG_core {P : Program} {w : World} {K : PySem.W.Frag} {mg mb : Str → Option Value} {CX : CXT} {k : Nat} {fa a : Addr} {fd : FuncData} {x : Str} {sp : Sp} {s1 : Shared} {vs : List Value}
    (KX : K.In s1.heap) (hns : s1.heap.Ns mainGlobals mg) (hb : s1.heap.Ns builtinsNs mb) (hbb : ∀ x : Str, x ≠ "__name__" → mb x = bootBuiltins x) (hlim : s1.heap.NoLimit) (hg : s1.gens = #[])
    (ha : s1.heap.get? a = some { cls := .type "list", data := .seq vs.toArray }) (hr : Room k callerA)
    (F : ∀ base : Heap, K.In base → base.Ns mainGlobals mg → FnG P w K mg base CX k fa fd [x] sp) (hbind : ∀ (s : Shared) (u : Value), BindsTo s fd ⟨[u], []⟩ [(x, u)])
    (hCX : ∀ H e s', CX [] H s1 (fun _ _ _ => False) e s' → False) (H : Hp) (hO : Only H) (hok : HOk P w H s1.heap) (hA : ∀ b, H b ≠ none → b = a) (hK : H a ≠ none → K.lookup a = none)
    (hsp : sp [.ref a] H (fun v _ => v = .bl true) fun _ _ _ => False) :
    codeAny (model P w) callerA (.call (.ref fa) ⟨[.ref a], []⟩) (fun r s' => r = .ok (.ret (.bool true)) ∧ OldK s1.heap s'.heap ∧ s'.os = s1.os ∧ AllBare s'.gens) s1 := by
  have noDict : ∀ (b : Addr) (o : Obj) (es : Array DictEntry) (ep : Nat), s1.heap.get? b = some o → o.data = .dict es ep → H b = none := by
    intro b o es ep q1 q2
    by_cases hb0 : H b = none
    · exact hb0
    · have e1 := hA b hb0
      subst e1
      rw [ha] at q1
      cases q1
      cases q2
  have ns2 : ∀ (b : Addr) (m : Str → Option Value), s1.heap.Ns b m → (hidT s1.heap H).Ns b m := by
    intro b m hm
    obtain ⟨o, es, ep, q1, q2, q3⟩ := hm
    exact ⟨o, es, ep, hidT_get q1 (noDict b o es ep q1 q2), q2, q3⟩
  have inK : K.In (hidT s1.heap H) := by
    intro b o q
    refine hidT_get (KX b o q) ?_
    by_cases hb0 : H b = none
    · exact hb0
    · have e1 := hA b hb0
      subst e1
      rw [hK hb0] at q
      cases q
  have hlim2 : (hidT s1.heap H).NoLimit := by
    obtain ⟨mc, q1, q2⟩ := hlim
    exact ⟨mc, ns2 _ _ q1, q2⟩
  have e0 : Env0 P w K mg (hidT s1.heap H) callerA [] s1 H :=
    ⟨rfl, ⟨inK, ns2 _ _ hns, ⟨mb, ns2 _ _ hb, hbb⟩, hlim2⟩, fun b o q => of_hidT q, Nat.le_of_eq (hidT_size _ _), trivial, fun b q => (List.not_mem_nil q).elim, hok, .of_eq hg⟩
  have run := (F _ inK (ns2 _ _ hns)).run callerA [] s1 H ⟨[.ref a], []⟩ [.ref a] [.ref a] _ _ rfl hr e0 (hbind s1 (.ref a)) (.cons rfl .nil) hsp
  refine codeAny_mono run fun r s' q => ?_
  match r, q with
  | .error e, q => exact (hCX H e s' q).elim
  | .ok (.ret u), q =>
    obtain ⟨v, H2, os, bare, un, hok2, rel, ev⟩ := q
    have ev2 : v = .bl true := ev
    subst ev2
    obtain rfl : u = Value.bool true := rel
    refine ⟨rfl, OldK.of_keep fun b o q1 => ?_, os, bare⟩
    rcases hO b with z | ⟨ob, xs, z⟩
    · exact un.keep b o q1 z (fun q2 => (List.not_mem_nil q2).elim) (fun q2 => (List.not_mem_nil q2).elim)
    · obtain ⟨g1, _⟩ := hok b _ z
      obtain ⟨g2, _⟩ := hok2 b _ (un.frzs b ob _ z)
      rw [q1] at g1
      cases g1
      exact g2

theorem lawG {P : Program} {w : World} {K : PySem.W.Frag} {mg mb : Str → Option Value} {CX : CXT} {k : Nat} {fa a : Addr} {fd : FuncData} {x : Str} {sp : Sp} {s1 : Shared} {vs : List Value} {ns : List Int}
    (KX : K.In s1.heap) (hns : s1.heap.Ns mainGlobals mg) (hb : s1.heap.Ns builtinsNs mb) (hbb : ∀ x : Str, x ≠ "__name__" → mb x = bootBuiltins x) (hlim : s1.heap.NoLimit) (hg : s1.gens = #[])
    (ha : s1.heap.get? a = some { cls := .type "list", data := .seq vs.toArray }) (hi : IntsAre vs ns) (hl : ns.length ≤ sizeLine) (hr : Room k callerA)
    (F : ∀ base : Heap, K.In base → base.Ns mainGlobals mg → FnG P w K mg base CX k fa fd [x] sp) (hbind : ∀ (s : Shared) (u : Value), BindsTo s fd ⟨[u], []⟩ [(x, u)])
    (hsp : ∀ H : Hp, Only H → SqL K H a (ns.map V.int) → sp [.ref a] H (fun v _ => v = .bl true) fun _ _ _ => False)
    (hCX : ∀ H e s', CX [] H s1 (fun _ _ _ => False) e s' → False) :
    codeAny (model P w) callerA (.call (.ref fa) ⟨[.ref a], []⟩) (fun r s' => r = .ok (.ret (.bool true)) ∧ OldK s1.heap s'.heap ∧ s'.os = s1.os ∧ AllBare s'.gens) s1 := by
  have vr := vals_ints hi
  have vl := hi.length
  by_cases hk : K.lookup a = none
  · have hat : ∀ u, (fun b => if b = a then some (HO.frz { cls := .type "list", data := .seq vs.toArray } (.lst (ns.map V.int))) else none) a = some u → u = HO.frz { cls := .type "list", data := .seq vs.toArray } (.lst (ns.map V.int)) := by
      intro u q
      have q2 := (if_pos rfl).symm.trans q
      cases q2
      rfl
    have hO : Only (fun b => if b = a then some (HO.frz { cls := .type "list", data := .seq vs.toArray } (.lst (ns.map V.int))) else none) := by
      intro b
      by_cases e : b = a
      · exact .inr ⟨_, _, if_pos e⟩
      · exact .inl (if_neg e)
    refine lawG_core KX hns hb hbb hlim hg ha hr F hbind hCX _ hO (fun b u q => ?_) (fun b q => ?_) (fun _ => hk) (hsp _ hO (.inl (.inr ⟨_, if_pos rfl⟩)))
    · by_cases e : b = a
      · subst e
        obtain rfl := hat u q
        exact ⟨ha, by rw [List.length_map]; exact hl, vs, _, vr, ha⟩
      · have q2 := (if_neg e).symm.trans q
        cases q2
    · by_cases e : b = a
      · exact e
      · exact absurd (if_neg e) q
  · obtain ⟨o, ho⟩ := Option.ne_none_iff_exists'.mp hk
    have q := KX a o ho
    rw [ha] at q
    cases q
    refine lawG_core KX hns hb hbb hlim hg ha hr F hbind hCX (fun _ => none) (fun _ => .inl rfl) (fun b u z => ?_) (fun b z => absurd rfl z) (fun z => absurd rfl z)
      (hsp _ (fun _ => .inl rfl) (.inr ⟨_, vs.toArray, _, ho, rfl, rfl, rfl, by rw [List.size_toArray, vl]; exact hl, by simpa using vr⟩))
    have z2 : (none : Option HO) = some u := z
    cases z2

theorem walkG {l : PySem.W.OpenLaw} {n k : Nat} {q : Program} {loose : List Str} {XP : (Str → Option Value) → Heap → Prop} {YP : World → Heap → Prop} {d : DefRec} {K : Params → PySem.W.Frag} {CX : World → CXT} {sp : World → Sp} {x : Str}
    (hn : l.most = some n) (hn2 : n ≤ sizeLine) (hdf : d.params.defaults = []) (hr : Room k callerA)
    (hY : ∀ (w : World) (h : Heap), YP w h → (K w.params).In h)
    (F : ∀ (w : World) (mg : Str → Option Value) (fa : Addr) (h : Heap), (K w.params).In h → h.Ns mainGlobals mg → mg d.name = some (.ref fa) →
      ∃ fd : FuncData, (∀ (s : Shared) (u : Value), BindsTo s fd ⟨[u], []⟩ [(x, u)]) ∧
        ∀ base : Heap, (K w.params).In base → base.Ns mainGlobals mg → FnG l.prog w (K w.params) mg base (CX w) k fa fd [x] (sp w))
    (hsp : ∀ (w : World) (H : Hp) (a : Addr) (ns : List Int), ns.length ≤ n → Only H → SqL (K w.params) H a (ns.map V.int) → sp w [.ref a] H (fun v _ => v = .bl true) fun _ _ _ => False)
    (hCX : ∀ (w : World) (H : Hp) (s : Shared) (e : Value) (s' : Shared), CX w [] H s (fun _ _ _ => False) e s' → False) :
    PySem.W.WalkO q loose XP YP l.row.toRowW d [] (fun f vs => PySem.call f vs) := by
  refine Att.attach_call hn hdf ?_
  intro w s0 s1 mg mb fa o pm cd doc a vs ns G Y ho hd hcd hmg hobj hints hlen hg
  have inK := hY w _ Y
  obtain ⟨fd, hb, hF⟩ := F w mg fa _ inK G.T.g hmg
  exact lawG inK G.T.g G.T.b G.T.builtins G.T.nolimit hg hobj hints (Nat.le_trans hlen hn2) hr hF hb (fun H hO hS => hsp w H a ns hlen hO hS) fun H e s' => hCX w H s1 e s'
end Cf

namespace Cf
open PySem PySem.Spec PyProof.Rows L2 Evl

/-! ## a def that callers know -/
structure Df (K : PySem.W.Frag) (mg : Str → Option Value) (x : Str) (st : Stmt) (ps : List Str) (f : Addr) (fd : FuncData) : Prop where
  F : Fun K x x st f fd
  g : mg x = some (.ref f)
  b : Binds K fd ps []
def Cl (P : Program) (w : World) (K : PySem.W.Frag) (mg : Str → Option Value) (base : Heap) (k : Nat) (x : Str) (ps : List Str) (sp : Sp) : Prop :=
  ∃ (f : Addr) (fd : FuncData), FnG P w K mg base CX0 k f fd ps sp ∧ mg x = some (.ref f) ∧ PySem.W.keepIn K (.ref f) = true ∧ Binds K fd ps []
section
variable {P : Program} {w : World} {K : PySem.W.Frag} {mg : Str → Option Value} {base : Heap}
theorem Cl.mk {k : Nat} {x : Str} {st : Stmt} {ps : List Str} {sp : Sp} {f : Addr} {fd : FuncData} (D : Df K mg x st ps f fd) (F : FnG P w K mg base CX0 k f fd ps sp) : Cl P w K mg base k x ps sp :=
  ⟨f, fd, F, D.g, D.F.kp, D.b⟩
theorem Cl.imp {k : Nat} {x : Str} {ps : List Str} {sp sp2 : Sp} (C : Cl P w K mg base k x ps sp) (h : ∀ vs H Q E, sp2 vs H Q E → sp vs H Q E) : Cl P w K mg base k x ps sp2 := by
  obtain ⟨f, fd, F, q⟩ := C
  exact ⟨f, fd, F.imp h, q⟩
/-- a body that nothing leaves -/
theorem df_ok {x : Str} {st : Stmt} {f : Addr} {fd : FuncData} {N ps : List Str} {k : Nat} {sp : Sp} (D : Df K mg x st ps f fd) (S : FnScope N ps (defScope st)) (len : ∀ vs H Q E, sp vs H Q E → vs.length = ps.length)
    (hbody : ∀ (cdv : Value) (A : Around) (outer : List Env) (s : Shared) (H : Hp) (vs : List V) (Q : VK) (E : XK), A.guards = some [] → Room k (A.deeper (envOfC x (defScope st) s.heap.objs.size f cdv)) → sp vs H Q E →
      ∃ t, PSs (cxOf CX0 P w K mg base N x (defScope st) f cdv A outer s H E).nox (defBody st) t ∧ t { nx := fun _ H' => Q .non H', rt := Q } (start N vs) H) : FnG P w K mg base CX0 (k + 1) f fd ps sp :=
  fun_okG D.F S len fun cdv A outer s H vs Q E hG hr hs => by
    obtain ⟨t, h, q⟩ := hbody cdv A outer s H vs Q E hG hr hs
    exact ⟨t, h.nox, q⟩
end
section
variable {X : Cx} {j k : Nat} {ps ks : List Str} {sp : Sp} {x : Str} {p pos : Pos} {e : Expr} {es : List Expr} {kws : List Keyword} {t tk : TA} {f : Addr} {fd : FuncData}
theorem pe_cl (C : Cl X.prog X.w X.K X.mg X.base j x ps sp) (hG : X.A.guards = some []) (hr : Room k X.A) (hg : Gl X x) (ha : PA X (e :: es) t) (hjk : j ≤ k := by decide)
    (hdb : (x == ("__debug__" : Str)) = false := by decide)
    (he : starEach (e :: es) X.env = (false, eval e X.env) :: starEach es X.env := by rfl)
    (hpl : (backTo pos (starEach es X.env)).any (·.1) = false := by rfl) : PE X (.Call (.Name x p) (e :: es) [] pos) (tCall sp [] E0 t) := by
  obtain ⟨f, fd, F, g, kp, b⟩ := C
  exact pe_g F hG (hr.mono hjk) hg g kp b .nil pass0 ha hdb he hpl
theorem pe_cl0 (C : Cl X.prog X.w X.K X.mg X.base j x ps sp) (hG : X.A.guards = some []) (hr : Room k X.A) (hg : Gl X x) (hjk : j ≤ k := by decide)
    (hdb : (x == ("__debug__" : Str)) = false := by decide) : PE X (.Call (.Name x p) [] [] pos) (tCall sp [] E0 tNil) := by
  obtain ⟨f, fd, F, g, kp, b⟩ := C
  exact pe_g0 F hG (hr.mono hjk) hg g kp b .nil pass0 hdb
/-- how a def takes its arguments by name -/
def KwC (K : PySem.W.Frag) (mg : Str → Option Value) (x : Str) (ps ks : List Str) (gV : List V → List V) : Prop :=
  ∀ (f : Addr) (fd : FuncData), mg x = some (.ref f) → (∃ g, KwB K fd ps ks g gV)
end
end Cf
namespace Cf
open PySem PySem.Spec PyProof.Rows L2 Evl
def Ck (P : Program) (w : World) (K : PySem.W.Frag) (mg : Str → Option Value) (base : Heap) (k : Nat) (x : Str) (ks : List Str) (gV : List V → List V) (sp : Sp) : Prop :=
  ∃ (f : Addr) (fd : FuncData) (ps : List Str) (g : List Value → List Value), FnG P w K mg base CX0 k f fd ps sp ∧ mg x = some (.ref f) ∧ PySem.W.keepIn K (.ref f) = true ∧ KwB K fd ps ks g gV
theorem Ck.mk {P : Program} {w : World} {K : PySem.W.Frag} {mg : Str → Option Value} {base : Heap} {k : Nat} {x : Str} {st : Stmt} {ps ks : List Str} {sp : Sp} {f : Addr} {fd : FuncData} {gV : List V → List V}
    (D : Df K mg x st ps f fd) (F : FnG P w K mg base CX0 k f fd ps sp) (g : List Value → List Value)
    (h : ∀ (kV doc pm : Value) (an : Option Addr) (cdv ct : Value) (ws : List Value), ws.length = ks.length → bindArgs (PySem.W.fnOf x x (defArgs st) (defBody st) (defScope st) .none kV doc pm an cdv ct) ⟨[], ks.zip ws⟩ = pure (ps.zip (g ws)))
    (rel : ∀ {zs : List V} {ws : List Value}, zs.length = ks.length → Vals zs ws → Vals (gV zs) (g ws)) : Ck P w K mg base k x ks gV sp :=
  ⟨f, fd, ps, g, F, D.g, D.F.kp, fun_kw D.F h rel⟩
section
variable {X : Cx} {j k : Nat} {ps ks : List Str} {sp : Sp} {x : Str} {p pos : Pos} {kws : List Keyword} {t tk : TA} {gV : List V → List V}
theorem pe_ck (C : Ck X.prog X.w X.K X.mg X.base j x ks gV sp) (hG : X.A.guards = some []) (hr : Room k X.A) (hg : Gl X x) (hkw : PK X kws tk) (hjk : j ≤ k := by decide)
    (hall : (backToKw pos (keywordEach kws X.env)).all (·.1.isSome) = true := by rfl)
    (hks : (backToKw pos (keywordEach kws X.env)).filterMap (·.1) = ks := by rfl)
    (hdb : (x == ("__debug__" : Str)) = false := by decide)
    (hpl : ((backTo pos (starEach [] X.env)).any (·.1) || (backToKw pos (keywordEach kws X.env)).any (·.1.isNone)) = false := by rfl) :
    PE X (.Call (.Name x p) [] kws pos) (tKw ks.length sp gV E0 tk) := by
  obtain ⟨f, fd, ps, g, F, gm, kp, b⟩ := C
  exact pe_gkw F hG (hr.mono hjk) hg gm kp b pass0 hkw hall hks hdb hpl
end
/-- a turn of a loop over enumerate(t) -/
theorem for_enumT {K : PySem.W.Frag} {a : Addr} {xs : List V} {g : TG} {tb : TS} {D : Ends} {σ : L2.St} {H : Hp} (Pv : Nat → L2.St → Hp → Prop) (h0 : Pv 0 σ H) (hl : ∀ i σ H, i ≤ xs.length → Pv i σ H → SqT K H a xs)
    (hq : ∀ i σ H T x, Pv i σ H → H T = none → Pv i σ (upd H T (.tup [.int (i : Nat), x])))
    (hs : ∀ i x T σ H, xs[i]? = some x → Pv i σ H → H T = some (.tup [.int (i : Nat), x]) → g (.ref T) σ H fun σ2 H2 => tb { D with nx := Pv (i + 1), ct := Pv (i + 1), bk := D.nx } σ2 H2) (hd : ∀ σ H, Pv xs.length σ H → D.nx σ H) :
    ∃ W : Nat → Nat → L2.St → Hp → Prop, (∃ m, W 0 m σ H) ∧ ∀ i m σ H, W i m σ H →
      ((IteT K a).stop i H ∧ D.nx σ H) ∨ ((IteT K a).go i H ∧ ∃ N : L2.St → Hp → Prop, (∀ σ' H', N σ' H' → ∃ m', m' < m ∧ W (i + 1) m' σ' H') ∧ ∀ x H', (IteT K a).yld i H x H' → g x σ H' fun σ2 H2 => tb { D with nx := N, ct := N, bk := D.nx } σ2 H2) := by
  refine ⟨fun i m σ H => m = xs.length - i ∧ i ≤ xs.length ∧ Pv i σ H, ⟨xs.length, by simp, Nat.zero_le _, h0⟩, ?_⟩
  intro i m σ H hw
  obtain ⟨rfl, hi, p⟩ := hw
  have q := hl i σ H hi p
  rcases Nat.lt_or_eq_of_le hi with hlt | he
  · refine .inr ⟨⟨xs, xs[i], q, List.getElem?_eq_getElem hlt⟩, Pv (i + 1), fun σ' H' p' => ⟨xs.length - (i + 1), by omega, rfl, hlt, p'⟩, fun v H' y => ?_⟩
    obtain ⟨T, x, rfl, hT, rfl, hx⟩ := y
    exact hs i x T σ _ (hx xs q) (hq i σ H T x p hT) upd_same
  · subst he
    exact .inl ⟨⟨xs, q, rfl⟩, hd σ H p⟩
end Cf

namespace Cf
open PySem PySem.Spec PyProof.Rows L2 Evl

/-! ## types and models, plainly -/
inductive Kd where
  | ch | sc | uc | sh | us | it | ui | lo | ul | wi | uw
  deriving DecidableEq
def Kd.s : Kd → Str
  | .ch => "char" | .sc => "schar" | .uc => "uchar" | .sh => "short" | .us => "ushort" | .it => "int" | .ui => "uint" | .lo => "long" | .ul => "ulong" | .wi => "wide" | .uw => "uwide"
def Kd.rk : Kd → Nat
  | .ch => 0 | .sc => 0 | .uc => 0 | .sh => 1 | .us => 1 | .it => 2 | .ui => 2 | .lo => 3 | .ul => 3 | .wi => 4 | .uw => 4
def Kd.all : List Kd := [.ch, .sc, .uc, .sh, .us, .it, .ui, .lo, .ul, .wi, .uw]
abbrev Kd.v (k : Kd) : V := .str k.s
structure Md where
  w0 : Nat
  w1 : Nat
  w2 : Nat
  w3 : Nat
  w4 : Nat
  u : Bool
structure Md.Ok (m : Md) : Prop where
  h0 : 2 ≤ m.w0
  h1 : m.w0 ≤ m.w1
  h2 : m.w1 ≤ m.w2
  h3 : m.w2 ≤ m.w3
  h4 : m.w3 ≤ m.w4
  h5 : m.w4 ≤ 128
def Md.w (m : Md) : Nat → Nat
  | 0 => m.w0 | 1 => m.w1 | 2 => m.w2 | 3 => m.w3 | _ => m.w4
def Md.ns (m : Md) : List Int := [m.w0, m.w1, m.w2, m.w3, m.w4]
abbrev Md.ws (m : Md) : List V := m.ns.map V.int
def plS (u : Bool) : Str := if u then "u" else "s"
def Md.b (m : Md) (k : Kd) : Nat := m.w k.rk
def Md.un (m : Md) : Kd → Bool
  | .ch => m.u | .uc => true | .us => true | .ui => true | .ul => true | .uw => true | _ => false
def Md.low (m : Md) (k : Kd) : Int := if m.un k then 0 else -(2 ^ (m.b k - 1))
def Md.high (m : Md) (k : Kd) : Int := if m.un k then 2 ^ m.b k - 1 else 2 ^ (m.b k - 1) - 1
theorem Md.Ok.bnd {m : Md} (h : m.Ok) (i : Nat) : 2 ≤ m.w i ∧ m.w i ≤ 128 := by
  obtain ⟨h0, h1, h2, h3, h4, h5⟩ := h
  match i with
  | 0 => simp only [Md.w]; omega
  | 1 => simp only [Md.w]; omega
  | 2 => simp only [Md.w]; omega
  | 3 => simp only [Md.w]; omega
  | n + 4 => simp only [Md.w]; omega
theorem Md.Ok.b {m : Md} (h : m.Ok) (k : Kd) : 2 ≤ m.b k ∧ m.b k ≤ 128 := h.bnd _
theorem Md.at_ {m : Md} {i : Nat} (h : i < 5) : m.ws[i]? = some (.int (m.w i)) := by
  match i, h with
  | 0, _ => rfl
  | 1, _ => rfl
  | 2, _ => rfl
  | 3, _ => rfl
  | 4, _ => rfl
theorem Kd.rk_lt (k : Kd) : k.rk < 5 := by cases k <;> decide

/-- a model stands at p -/
def AtM (K : PySem.W.Frag) (H : Hp) (p : Addr) (m : Md) : Prop := ∃ q, SqT K H p [.ref q, .str (plS m.u)] ∧ SqT K H q m.ws
theorem AtM.ex {K : PySem.W.Frag} {H H' : Hp} {p : Addr} {m : Md} (e : Ex H H') (h : AtM K H p m) : AtM K H' p m := by
  obtain ⟨q, a, b⟩ := h
  exact ⟨q, ex_t e a, ex_t e b⟩

/-! ## the module's constants -/
def CT (K : PySem.W.Frag) (mg : Str → Option Value) (x : Str) (xs : List V) : Prop := ∃ a, mg x = some (.ref a) ∧ ∀ H, SqT K H a xs
def CI (mg : Str → Option Value) (x : Str) (i : Int) : Prop := ∃ t, mg x = some (.int i t)
def CR5 (K : PySem.W.Frag) (w : World) (mg : Str → Option Value) : Prop := ∃ a, mg "RANKS" = some (.ref a) ∧ ∀ k : Kd, KDct K w a k.s (.int k.rk)
def vKINDS : List V := Kd.all.map Kd.v
def vSIGNED : List V := [Kd.sc.v, Kd.sh.v, Kd.it.v, Kd.lo.v, Kd.wi.v]
def vUNSIGNED : List V := [Kd.uc.v, Kd.us.v, Kd.ui.v, Kd.ul.v, Kd.uw.v]
def vPLAIN : List V := [.str "s", .str "u"]
section
variable {X : Cx} {pos : Pos}
theorem pe_ct {x : Str} {xs : List V} (hg : Gl X x) (c : CT X.K X.mg x xs) (hd : (x == ("__debug__" : Str)) = false := by decide) : PE X (.Name x pos) (fun σ H Q => ∀ a, SqT X.K H a xs → Q (.ref a) H) := by
  obtain ⟨a, e, q⟩ := c
  constructor
  intro pins s σ H Q I h
  exact (pe_glob (v := .ref a) hg e rfl hd).run pins s σ H Q I (h a (q H))
theorem pe_ci {x : Str} {i : Int} (hg : Gl X x) (c : CI X.mg x i) (hd : (x == ("__debug__" : Str)) = false := by decide) : PE X (.Name x pos) (tC (.int i)) := by
  obtain ⟨t, e⟩ := c
  exact pe_glob hg e ⟨t, rfl⟩ hd
end
/-! ## promises -/
/-- what a pure def gives -/
def PV (pre : List V → Hp → V → Prop) : Sp := fun vs H Q _ => ∃ v, pre vs H v ∧ ∀ H', Ex H H' → Q v H'
def PU (pre : List V → Hp → List V → Prop) : Sp := fun vs H Q _ => ∃ xs, pre vs H xs ∧ ∀ p H', H p = none → Ex H H' → H' p = some (.tup xs) → Q (.ref p) H'
def PL (pre : List V → Hp → List V → Prop) : Sp := fun vs H Q _ => ∃ xs, pre vs H xs ∧ ∀ p H', H p = none → Ex H H' → H' p = some (.lst xs) → Q (.ref p) H'
theorem PV.sp {pre : List V → Hp → V → Prop} {vs : List V} {H : Hp} {v : V} (h : ∀ H1, Ex H H1 → pre vs H1 v) : SpV (PV pre) vs H v := fun H1 e Q q E => ⟨v, h H1 e, q⟩
/-- a def of a model and a type -/
def preMK (K : PySem.W.Frag) (g : Md → Kd → V) : List V → Hp → V → Prop := fun vs H v => ∃ p m k, vs = [.ref p, k.v] ∧ AtM K H p m ∧ m.Ok ∧ v = g m k
def preMU (K : PySem.W.Frag) (g : Md → Kd → List V) : List V → Hp → List V → Prop := fun vs H v => ∃ p m k, vs = [.ref p, k.v] ∧ AtM K H p m ∧ m.Ok ∧ v = g m k
def preMKI (K : PySem.W.Frag) (g : Md → Kd → Int → V) : List V → Hp → V → Prop := fun vs H v => ∃ p m k i, vs = [.ref p, k.v, .int i] ∧ AtM K H p m ∧ m.Ok ∧ v = g m k i
def preMKK (K : PySem.W.Frag) (g : Md → Kd → Kd → V) : List V → Hp → V → Prop := fun vs H v => ∃ p m k l, vs = [.ref p, k.v, l.v] ∧ AtM K H p m ∧ m.Ok ∧ v = g m k l
def preM (K : PySem.W.Frag) : List V → Hp → V → Prop := fun vs H v => ∃ p m, vs = [.ref p] ∧ AtM K H p m ∧ m.Ok ∧ v = .non
def preW (K : PySem.W.Frag) : List V → Hp → V → Prop := fun vs H v => ∃ p m, vs = [.ref p] ∧ SqT K H p (Md.ws m) ∧ m.Ok ∧ v = .non
def preK : List V → Hp → V → Prop := fun vs H v => ∃ k : Kd, vs = [k.v] ∧ v = .non
theorem spMK {K : PySem.W.Frag} {g : Md → Kd → V} {H : Hp} {p : Addr} {m : Md} {k : Kd} (a : AtM K H p m) (o : m.Ok) : SpV (PV (preMK K g)) [.ref p, k.v] H (g m k) := PV.sp fun H1 e => ⟨p, m, k, rfl, a.ex e, o, rfl⟩
theorem spMKI {K : PySem.W.Frag} {g : Md → Kd → Int → V} {H : Hp} {p : Addr} {m : Md} {k : Kd} {i : Int} (a : AtM K H p m) (o : m.Ok) : SpV (PV (preMKI K g)) [.ref p, k.v, .int i] H (g m k i) := PV.sp fun H1 e => ⟨p, m, k, i, rfl, a.ex e, o, rfl⟩
theorem spMKK {K : PySem.W.Frag} {g : Md → Kd → Kd → V} {H : Hp} {p : Addr} {m : Md} {k l : Kd} (a : AtM K H p m) (o : m.Ok) : SpV (PV (preMKK K g)) [.ref p, k.v, l.v] H (g m k l) := PV.sp fun H1 e => ⟨p, m, k, l, rfl, a.ex e, o, rfl⟩
theorem spM {K : PySem.W.Frag} {H : Hp} {p : Addr} {m : Md} (a : AtM K H p m) (o : m.Ok) : SpV (PV (preM K)) [.ref p] H .non := PV.sp fun H1 e => ⟨p, m, rfl, a.ex e, o, rfl⟩
theorem spW {K : PySem.W.Frag} {H : Hp} {p : Addr} {m : Md} (a : SqT K H p m.ws) (o : m.Ok) : SpV (PV (preW K)) [.ref p] H .non := PV.sp fun H1 e => ⟨p, m, rfl, ex_t e a, o, rfl⟩
theorem spK {H : Hp} {k : Kd} : SpV (PV preK) [k.v] H .non := PV.sp fun H1 e => ⟨k, rfl, rfl⟩
/-- a call's tuple -/
def SpU (sp : Sp) (vs : List V) (H : Hp) (xs : List V) : Prop := ∀ H1, Ex H H1 → ∀ Q : VK, (∀ p H2, H1 p = none → Ex H1 H2 → H2 p = some (.tup xs) → Q (.ref p) H2) → ∀ E : XK, sp vs H1 Q E
theorem spMU {K : PySem.W.Frag} {g : Md → Kd → List V} {H : Hp} {p : Addr} {m : Md} {k : Kd} (a : AtM K H p m) (o : m.Ok) : SpU (PU (preMU K g)) [.ref p, k.v] H (g m k) := fun H1 e Q q E => ⟨_, ⟨p, m, k, rfl, a.ex e, o, rfl⟩, q⟩
theorem eu_call {σ : L2.St} {H : Hp} {sp : Sp} {dvs vs xs : List V} {E : XK} {ta : TA} (h : EvA ta σ H vs) (hs : SpU sp (vs ++ dvs) H xs) : EvU (tCall sp dvs E ta) σ H xs := fun H1 e Q q =>
  h H1 e _ fun H2 e2 => hs H2 (e.trans e2) Q (fun p H3 hp e3 h3 => q p H3 (fresh_back e2 hp) (e2.trans e3) h3) E
theorem ev_ct {K : PySem.W.Frag} {σ : L2.St} {H : Hp} {xs : List V} {r : R2} {ta : TE} {x z : V} (ha : Ev ta σ H x) (hr : ∀ a H1, Ex H H1 → SqT K H1 a xs → RV r x (.ref a) H1 z) :
    Ev (tOp r ta (fun σ H Q => ∀ a, SqT K H a xs → Q (.ref a) H)) σ H z := fun H1 e Q q =>
  ha H1 e _ fun H2 e2 => fun a t => hr a H2 (e.trans e2) t H2 (Ex.refl H2) Q fun H3 e3 => q H3 (e2.trans e3)
theorem pre_len1 {pre : List V → Hp → V → Prop} {n : Nat} (h : ∀ vs H v, pre vs H v → vs.length = n) : ∀ vs H Q E, PV pre vs H Q E → vs.length = n := fun vs H Q E q => by
  obtain ⟨v, a, _⟩ := q
  exact h _ _ _ a
theorem pre_lenU {pre : List V → Hp → List V → Prop} {n : Nat} (h : ∀ vs H v, pre vs H v → vs.length = n) : ∀ vs H Q E, PU pre vs H Q E → vs.length = n := fun vs H Q E q => by
  obtain ⟨v, a, _⟩ := q
  exact h _ _ _ a
end Cf

namespace Cf
open PySem PySem.Spec PyProof.Rows L2 Evl

/-! ## the draws -/
/-- all but the object at r is as it was -/
def Bu (r : Addr) (H H' : Hp) : Prop := ∀ b o, b ≠ r → H b = some o → H' b = some o
theorem Bu.refl (r : Addr) (H : Hp) : Bu r H H := fun _ _ _ h => h
theorem Bu.trans {r : Addr} {H H1 H2 : Hp} (a : Bu r H H1) (b : Bu r H1 H2) : Bu r H H2 := fun c o n h => b c o n (a c o n h)
theorem Bu.of {r : Addr} {H H1 : Hp} (a : Ex H H1) : Bu r H H1 := fun c o _ h => a c o h
theorem Bu.upd {r : Addr} {H : Hp} {o : HO} : Bu r H (upd H r o) := fun c u n h => by rw [upd_ne n]; exact h
theorem Bu.l {K : PySem.W.Frag} {r a : Addr} {H H1 : Hp} {xs : List V} (e : Bu r H H1) (n : a ≠ r) (h : SqL K H a xs) : SqL K H1 a xs := by
  rcases h with (h | ⟨o, h⟩) | h
  · exact .inl (.inl (e _ _ n h))
  · exact .inl (.inr ⟨o, e _ _ n h⟩)
  · exact .inr h
def Rng (H : Hp) (r : Addr) (n : Nat) : Prop := ∃ d s c : Int, H r = some (.lst [.int d, .int s, .int c]) ∧ s.natAbs < 2 ^ 70 ∧ 0 ≤ c ∧ c ≤ n
theorem Rng.ex {H H' : Hp} {r : Addr} {n : Nat} (h : Rng H r n) (e : Ex H H') : Rng H' r n := by
  obtain ⟨d, s, c, a, b⟩ := h
  exact ⟨d, s, c, e _ _ a, b⟩
theorem Rng.le {H : Hp} {r : Addr} {n k : Nat} (h : Rng H r n) (l : n ≤ k) : Rng H r k := by
  obtain ⟨d, s, c, a, b1, b2, b3⟩ := h
  exact ⟨d, s, c, a, b1, b2, by omega⟩
/-- a tuple is no list: it stands elsewhere -/
theorem Rng.ne_tup {H : Hp} {r p : Addr} {n : Nat} {xs : List V} (h : Rng H r n) (t : H p = some (.tup xs)) : p ≠ r := by
  obtain ⟨d, s, c, a, _⟩ := h
  exact ne_of t a (fun z => by cases z)
theorem Bu.t {K : PySem.W.Frag} {r a : Addr} {n : Nat} {H H1 : Hp} {xs : List V} (e : Bu r H H1) (g : Rng H r n) (h : SqT K H a xs) : SqT K H1 a xs := by
  rcases h with (h | ⟨o, h⟩) | h
  · exact .inl (.inl (e _ _ (g.ne_tup h) h))
  · refine .inl (.inr ⟨o, e _ _ ?_ h⟩)
    obtain ⟨d, s, c, q, _⟩ := g
    exact ne_of h q (fun z => by cases z)
  · exact .inr h
theorem AtM.bu {K : PySem.W.Frag} {r p : Addr} {n : Nat} {H H1 : Hp} {m : Md} (e : Bu r H H1) (g : Rng H r n) (h : AtM K H p m) : AtM K H1 p m := by
  obtain ⟨q, a, b⟩ := h
  exact ⟨q, e.t g a, e.t g b⟩
def spDraw : Sp := fun vs H Q _ => ∃ r l n, vs = [.ref r, .int l] ∧ 0 < l ∧ l.natAbs.log2 < 9000 ∧ n < 2 ^ 60 ∧ Rng H r n ∧ ∀ H' v, Bu r H H' → Rng H' r (n + 1) → 0 ≤ v → v < l → Q (.int v) H'
def spRng (K : PySem.W.Frag) : Sp := fun vs H Q _ => ∃ (a : Addr) (ns : List Int), vs = [.ref a] ∧ SqL K H a (ns.map V.int) ∧ ns.length ≤ 63 ∧ ∀ r H', H r = none → Ex H H' → Rng H' r 0 → Q (.ref r) H'
theorem cut_mem {xs : List V} {lo hi : Option Int} {x : V} (h : x ∈ cutV xs lo hi) : x ∈ xs := by
  unfold cutV at h
  exact List.mem_of_mem_drop (List.mem_of_mem_take h)
theorem pow10_step (n : Nat) : (10 : Int) ^ (60 * (n + 1)) = 10 ^ (60 * n) * 10 ^ 60 := by
  rw [Nat.mul_succ, Int.pow_add]
theorem big10 : (10 : Nat) ^ 3780 ≤ 2 ^ 13000 := by decide +kernel
theorem pow10_bits {n : Nat} (h : n ≤ 63) {d : Int} (h0 : 0 ≤ d) (h1 : d < 10 ^ (60 * n)) : d.natAbs < 2 ^ 13000 := by
  have e1 : (10 : Nat) ^ (60 * n) ≤ 10 ^ 3780 := Nat.pow_le_pow_right (by decide) (by omega)
  have e2 : d.natAbs < 10 ^ (60 * n) := by
    have e3 : ((10 : Int) ^ (60 * n)) = ((10 ^ (60 * n) : Nat) : Int) := by
      rw [Int.natCast_pow]
      rfl
    rw [e3] at h1
    omega
  exact Nat.lt_of_lt_of_le e2 (Nat.le_trans e1 big10)
end Cf

namespace Cf
open PySem PySem.Spec PyProof.Rows L2 Evl

/-! ## repr of small data -/
mutual
def Sm : PyData → Prop
  | .none => True
  | .bool _ => True
  | .int i => i.natAbs < 2 ^ 140
  | .str x => x.cps.size ≤ 30 ∧ (x.cps.toList.all fun c => decide (c < 16 ^ 8)) = true
  | .list xs => SmAll xs
  | .tuple xs => SmAll xs
  | .dict _ => False
def SmAll : List PyData → Prop
  | [] => True
  | x :: xs => Sm x ∧ SmAll xs
end
mutual
def szD : PyData → Nat
  | .list xs => 1 + szAll xs
  | .tuple xs => 1 + szAll xs
  | _ => 1
def szAll : List PyData → Nat
  | [] => 0
  | x :: xs => szD x + szAll xs
end
theorem int_len {i : Int} (h : i.natAbs < 2 ^ 140) : (PyData.shown (.int i)).length ≤ 141 := by
  have h1 := int_text_length_le (a := i) (k := 140) (by decide) (PySem.Flt.log2_lt_of (by decide) h)
  simp only [PyData.shown]
  show (Str.ofString (toString i)).length ≤ 141
  have e : (Str.ofString (toString i)).length = (toString i).length := PySem.ofString_length _
  omega
mutual
theorem sm_all : ∀ d : PyData, Sm d → d.showable = true ∧ d.hasDict = false ∧ d.leavesShort 141 = true ∧ d.weight + 1 ≤ 142 * szD d
  | .none, _ => ⟨by simp only [PyData.showable], by simp only [PyData.hasDict], by simp only [PyData.leavesShort], by simp only [PyData.weight, szD]; omega⟩
  | .bool _, _ => ⟨by simp only [PyData.showable], by simp only [PyData.hasDict], by simp only [PyData.leavesShort], by simp only [PyData.weight, szD]; omega⟩
  | .int i, h => by
    have h1 : i.natAbs < 2 ^ 140 := h
    have h2 : i.natAbs.log2 < 140 := PySem.Flt.log2_lt_of (by decide) h1
    refine ⟨?_, by simp only [PyData.hasDict], ?_, ?_⟩
    · simp only [PyData.showable]
      exact decide_eq_true (by omega)
    · simp only [PyData.leavesShort]
      exact decide_eq_true (int_len h1)
    · simp only [PyData.weight, szD]
      split <;> omega
  | .str x, h => by
    have h1 : x.cps.size ≤ 30 ∧ (x.cps.toList.all fun c => decide (c < 16 ^ 8)) = true := h
    refine ⟨by simp only [PyData.showable], by simp only [PyData.hasDict], ?_, ?_⟩
    · simp only [PyData.leavesShort]
      exact h1.2
    · simp only [PyData.weight, szD]
      omega
  | .list xs, h => by
    obtain ⟨a, b, c, e⟩ := sm_alls xs h
    refine ⟨by simp only [PyData.showable]; exact a, by simp only [PyData.hasDict]; exact b, by simp only [PyData.leavesShort]; exact c, ?_⟩
    simp only [PyData.weight, szD]
    omega
  | .tuple xs, h => by
    obtain ⟨a, b, c, e⟩ := sm_alls xs h
    refine ⟨by simp only [PyData.showable]; exact a, by simp only [PyData.hasDict]; exact b, by simp only [PyData.leavesShort]; exact c, ?_⟩
    simp only [PyData.weight, szD]
    omega
  | .dict _, h => h.elim
theorem sm_alls : ∀ ds : List PyData, SmAll ds → PyData.showableAll ds = true ∧ PyData.hasDictAll ds = false ∧ PyData.leavesShortAll 141 ds = true ∧ PyData.weightAll ds ≤ 142 * szAll ds
  | [], _ => ⟨by simp only [PyData.showableAll], by simp only [PyData.hasDictAll], by simp only [PyData.leavesShortAll], by simp only [PyData.weightAll]; omega⟩
  | x :: xs, h => by
    obtain ⟨a1, b1, c1, e1⟩ := sm_all x h.1
    obtain ⟨a2, b2, c2, e2⟩ := sm_alls xs h.2
    refine ⟨by simp only [PyData.showableAll, a1, a2]; rfl, by simp only [PyData.hasDictAll, b1, b2]; rfl, by simp only [PyData.leavesShortAll, c1, c2]; rfl, ?_⟩
    simp only [PyData.weightAll, szAll]
    omega
end
theorem sm_len {d : PyData} (h : Sm d) (z : szD d ≤ 800) : d.shown.length ≤ sizeLine := by
  obtain ⟨_, _, c, e⟩ := sm_all d h
  have h1 := PyData.shown_le 141 (by decide) d c
  have h2 := sizeLine_eq
  omega
mutual
theorem dp_ex {K : PySem.W.Frag} {H H' : Hp} (e : Ex H H') : ∀ (d : PyData) (v : V), Dp K H v d → Dp K H' v d
  | .none, _, h => by
    cases h
    exact .non
  | .bool b, _, h => by
    cases h
    exact .bl b
  | .int i, _, h => by
    cases h
    exact .int i
  | .str x, _, h => by
    cases h
    exact .str x
  | .list ds, _, h => by
    cases h with
    | lst a b => exact .lst (ex_l e a) (dps_ex e ds _ b)
  | .tuple ds, _, h => by
    cases h with
    | tup a b => exact .tup (ex_t e a) (dps_ex e ds _ b)
  | .dict _, _, h => nomatch h
theorem dps_ex {K : PySem.W.Frag} {H H' : Hp} (e : Ex H H') : ∀ (ds : List PyData) (vs : List V), DpAll K H vs ds → DpAll K H' vs ds
  | [], _, h => by
    cases h
    exact .nil
  | x :: xs, _, h => by
    cases h with
    | cons a b => exact .cons (dp_ex e x _ a) (dps_ex e xs _ b)
end
section
variable {K : PySem.W.Frag} {σ : L2.St} {H : Hp} {ta : TE} {a : Addr} {d : PyData} {xs : List V}
theorem ev_repr (ha : Ev ta σ H (.ref a)) (hd : Dp K H (.ref a) d) (hs : Sm d) (hz : szD d ≤ 800) (hp : d.depth ≤ 60) : Ev (tCB (rRepr K) (tCons ta tNil)) σ H (.str d.shown) := fun H1 e Q q =>
  ha H1 e _ fun H2 e2 => ⟨a, d, rfl, dp_ex (e.trans e2) d _ hd, (sm_all d hs).1, (sm_all d hs).2.1, sm_len hs hz, hp, q H2 e2⟩
theorem ev_reprN (ha : EvL ta σ H xs) (hd : ∀ H1, Ex H H1 → DpAll K H1 xs (match d with | .list ds => ds | _ => [])) (hl : ∃ ds, d = .list ds) (hs : Sm d) (hz : szD d ≤ 800) (hp : d.depth ≤ 60) :
    Ev (tCB (rRepr K) (tCons ta tNil)) σ H (.str d.shown) := fun H1 e Q q =>
  ha H1 e _ fun p H2 _ e2 h2 => by
    obtain ⟨ds, rfl⟩ := hl
    exact ⟨p, .list ds, rfl, .lst (sq_of h2) (hd H2 (e.trans e2)), (sm_all _ hs).1, (sm_all _ hs).2.1, sm_len hs hz, hp, q H2 e2⟩
theorem dp_ints {H : Hp} : ∀ ns : List Int, DpAll K H (ns.map V.int) (ns.map PyData.int)
  | [] => .nil
  | n :: ns => .cons (.int n) (dp_ints ns)
theorem AtM.dp {p : Addr} {m : Md} (h : AtM K H p m) : Dp K H (.ref p) (.tuple [.tuple (m.ns.map PyData.int), .str (plS m.u)]) := by
  obtain ⟨q, a, b⟩ := h
  exact .tup a (.cons (.tup b (dp_ints _)) (.cons (.str _) .nil))
theorem Md.sm {m : Md} (h : m.Ok) : Sm (.tuple [.tuple (m.ns.map PyData.int), .str (plS m.u)]) := by
  obtain ⟨h0, h1, h2, h3, h4, h5⟩ := h
  have hs : Sm (.str (plS m.u)) := by
    cases m.u
    · exact ⟨by decide, by decide⟩
    · exact ⟨by decide, by decide⟩
  refine ⟨⟨?_, ?_, ?_, ?_, ?_, trivial⟩, hs, trivial⟩
  · show ((m.w0 : Nat) : Int).natAbs < 2 ^ 140
    omega
  · show ((m.w1 : Nat) : Int).natAbs < 2 ^ 140
    omega
  · show ((m.w2 : Nat) : Int).natAbs < 2 ^ 140
    omega
  · show ((m.w3 : Nat) : Int).natAbs < 2 ^ 140
    omega
  · show ((m.w4 : Nat) : Int).natAbs < 2 ^ 140
    omega
end
end Cf

namespace Cf
open PySem PySem.Spec PyProof.Rows L2 Evl
section
variable {K : PySem.W.Frag} {σ : L2.St} {H : Hp} {ta tb tc te : TE} {tr tk : TA} {x z : V} {xs zs : List V} {a b c : Int} {sp : Sp} {m : Nat} {gV : List V → List V} {E : XK}
theorem ev_kw (h : EvA tk σ H zs) (hl : zs.length = m) (hs : SpV sp (gV zs) H z) : Ev (tKw m sp gV E tk) σ H z := fun H1 e Q q =>
  h H1 e _ fun H2 e2 => ⟨hl, hs H2 (e.trans e2) Q (fun H3 e3 => q H3 (e2.trans e3)) E⟩
theorem eu_kw (h : EvA tk σ H zs) (hl : zs.length = m) (hs : SpU sp (gV zs) H xs) : EvU (tKw m sp gV E tk) σ H xs := fun H1 e Q q =>
  h H1 e _ fun H2 e2 => ⟨hl, hs H2 (e.trans e2) Q (fun p H3 hp e3 h3 => q p H3 (fresh_back e2 hp) (e2.trans e3) h3) E⟩
theorem ea_at {Q : List V → Hp → Prop} (h : Ev te σ H x) (k : ∀ H1, Ex H H1 → tr σ H1 fun xs H2 => Q (x :: xs) H2) : tCons te tr σ H Q := h H (Ex.refl H) _ k
theorem ea_atU {Q : List V → Hp → Prop} (h : EvU te σ H xs) (k : ∀ p H1, H p = none → Ex H H1 → H1 p = some (.tup xs) → tr σ H1 fun ys H2 => Q (.ref p :: ys) H2) : tCons te tr σ H Q := h H (Ex.refl H) _ k
theorem ea_atL {Q : List V → Hp → Prop} (h : EvL te σ H xs) (k : ∀ p H1, H p = none → Ex H H1 → H1 p = some (.lst xs) → tr σ H1 fun ys H2 => Q (.ref p :: ys) H2) : tCons te tr σ H Q := h H (Ex.refl H) _ k
theorem ev_chLe (ha : Ev ta σ H (.int a)) (hb : Ev tb σ H (.int b)) (hc : Ev tc σ H (.int c)) :
    Ev (tChain (rI0 fun i j => .bl (decide (i ≤ j))) (rI0 fun i j => .bl (decide (i ≤ j))) ta tb tc) σ H (.bl (decide (a ≤ b ∧ b ≤ c))) := fun H1 e Q q =>
  ha H1 e _ fun H2 e2 => hb H2 (e.trans e2) _ fun H3 e3 => ⟨a, b, rfl, rfl, _, rfl, by
    have e4 := (e.trans e2).trans e3
    by_cases h1 : a ≤ b
    · rw [decide_eq_true h1]
      refine iteT (hc H3 e4 _ fun H4 e5 => ⟨b, c, rfl, rfl, ?_⟩)
      have e6 : decide (b ≤ c) = decide (a ≤ b ∧ b ≤ c) := by
        by_cases h2 : b ≤ c
        · rw [decide_eq_true h2, decide_eq_true ⟨h1, h2⟩]
        · rw [decide_eq_false h2, decide_eq_false fun z => h2 z.2]
      show Q (.bl (decide (b ≤ c))) H4
      rw [e6]
      exact q H4 ((e2.trans e3).trans e5)
    · rw [decide_eq_false h1]
      refine iteF ?_
      have e6 : decide (a ≤ b ∧ b ≤ c) = false := decide_eq_false fun z => h1 z.1
      rw [e6] at q
      exact q H3 (e2.trans e3)⟩
theorem q_par {tz : TS} {D : Ends} {i j : Nat} {y : V} (ha : Ev ta σ H x) (hb : Ev tb σ H y) (k : ∀ H1, Ex H H1 → tz D ((σ.set i (some x)).set j (some y)) H1) : tSeq (tPar i j (tCons ta (tCons tb tNil))) tz D σ H :=
  ha H (Ex.refl H) _ fun H1 e1 => hb H1 e1 _ fun H2 e2 => ⟨x, y, rfl, k H2 (e1.trans e2)⟩
theorem q_raw {tz : TS} {D : Ends} {i : Nat} (h : te σ H fun x H1 => tz D (σ.set i (some x)) H1) : tSeq (tAsg te (gName i)) tz D σ H := h
theorem lst_raw {Q : VK} (h : tr σ H fun xs H1 => xs.length ≤ sizeLine ∧ ∀ p, H1 p = none → Q (.ref p) (upd H1 p (.lst xs))) : tLst tr σ H Q := h
theorem tup_raw {Q : VK} (h : tr σ H fun xs H1 => xs.length ≤ sizeLine ∧ ∀ p, H1 p = none → Q (.ref p) (upd H1 p (.tup xs))) : tTup tr σ H Q := h
theorem ev_reprL {ds : List PyData} (ha : EvL ta σ H xs) (hd : ∀ H1, Ex H H1 → DpAll K H1 xs ds) (hs : SmAll ds) (hz : szD (.list ds) ≤ 800) (hp : (PyData.list ds).depth ≤ 60) :
    Ev (tCB (rRepr K) (tCons ta tNil)) σ H (.str (PyData.shown (.list ds))) := fun H1 e Q q =>
  ha H1 e _ fun p H2 _ e2 h2 => ⟨p, .list ds, rfl, .lst (sq_of h2) (hd H2 (e.trans e2)), (sm_all (.list ds) hs).1, (sm_all (.list ds) hs).2.1, sm_len (d := .list ds) hs hz, hp, q H2 e2⟩
theorem q_newL {t u : TS} {D : Ends} {p : Addr} (n : H p = none) (k : ∀ H', Ex H H' → H' p = some (.lst xs) → tSeq t u D σ H') : tSeq t u D σ (upd H p (.lst xs)) := k _ (Ex.new n) upd_same
theorem q_newT {t u : TS} {D : Ends} {p : Addr} (n : H p = none) (k : ∀ H', Ex H H' → H' p = some (.tup xs) → tSeq t u D σ H') : tSeq t u D σ (upd H p (.tup xs)) := k _ (Ex.new n) upd_same
theorem op_raw {r : R2} {Q : VK} (h : ta σ H fun x H1 => tb σ H1 fun y H2 => r x y H2 Q) : tOp r ta tb σ H Q := h
theorem test_raw {Q : Bool → Hp → Prop} (h : te σ H fun x H' => ∃ k, x = .bl k ∧ Q k H') : tTest te σ H Q := h
theorem if_raw {t : TT} {u v : TS} {D : Ends} (h : t σ H fun b H1 => if b = true then u D σ H1 else v D σ H1) : tIfS t u v D σ H := h
theorem lc_go {g : TG} {tt : TT} {vs : List Nat} {Q : VK} (hl : EvL ta σ H xs) (Pv : Addr → Addr → Nat → Hp → Prop)
    (h0 : ∀ a D H1, H a = none → Ex H H1 → H1 a = some (.lst xs) → H1 D = none → Pv a D 0 (upd H1 D (.lst [])))
    (hk : ∀ a D i H', i ≤ xs.length → Pv a D i H' → SqL K H' a xs)
    (hs : ∀ a D i x H', xs[i]? = some x → Pv a D i H' → g x (wipe σ vs) H' fun σ2 H2 => wipe σ2 vs = wipe σ vs ∧ tt σ2 H2 fun b H3 =>
      if b = true then te σ2 H3 fun y H4 => ∃ acc, H4 D = some (.lst acc) ∧ acc.length < sizeLine ∧ Pv a D (i + 1) (upd H4 D (.lst (acc ++ [y]))) else Pv a D (i + 1) H3)
    (hd : ∀ a D H', Pv a D xs.length H' → Q (.ref D) H') : tLc (iList K ta) g tt te vs σ H Q :=
  hl H (Ex.refl H) _ fun a H1 n1 e1 h1 => ⟨a, rfl, ⟨xs, sq_of h1⟩, fun D nD => lc_list (Pv a D) (h0 a D H1 n1 e1 h1 nD) (hk a D) (hs a D) (hd a D)⟩
theorem ev_pair {d e : PyData} (h1 : Ev ta σ H (.str d.shown)) (h2 : Ev tb σ H (.str e.shown)) (h : d = e) : Ev (tOp rNe ta tb) σ H (.bl false) := by
  subst h
  refine ev_is (ev_op h1 h2 (rv_ne rfl)) ?_
  rw [decide_eq_true rfl]
  rfl
end
def gV2 : List V → List V
  | [a, b] => [b, a]
  | _ => []
def gU2 : List Value → List Value
  | [a, b] => [b, a]
  | _ => []
def gV3 : List V → List V
  | [a, b, c] => [c, b, a]
  | _ => []
def gU3 : List Value → List Value
  | [a, b, c] => [c, b, a]
  | _ => []
theorem g2_rel : ∀ {zs : List V} {ws : List Value}, zs.length = 2 → Vals zs ws → Vals (gV2 zs) (gU2 ws)
  | [_, _], [_, _], _, .cons a (.cons b .nil) => .cons b (.cons a .nil)
theorem g3_rel : ∀ {zs : List V} {ws : List Value}, zs.length = 3 → Vals zs ws → Vals (gV3 zs) (gU3 ws)
  | [_, _, _], [_, _, _], _, .cons a (.cons b (.cons c .nil)) => .cons c (.cons b (.cons a .nil))
end Cf

namespace Cf
open PySem PySem.Spec PyProof.Rows L2 Evl
theorem shl1 {b : Nat} {σ : L2.St} {H : Hp} (h : b ≤ 128) {ta tb : TE} (ha : Ev ta σ H (.int 1)) (hb : Ev tb σ H (.int (b : Int))) : Ev (tOp (rI CPow fun i j => .int (i * 2 ^ j.toNat)) ta tb) σ H (.int (2 ^ b)) := by
  refine ev_is (ev_op ha hb (rv_I ⟨by omega, by omega, by decide⟩)) ?_
  rw [Int.toNat_natCast, Int.one_mul]

theorem small_log {i : Int} {n : Nat} (hn : 0 < n) (h : i.natAbs < 2 ^ n) (h2 : n ≤ 90000) : CPowW i 3 := ⟨by decide, by decide, by
  have := PySem.Flt.log2_lt_of hn h
  omega⟩

def preNil (xs : List V) : List V → Hp → List V → Prop := fun vs H ys => vs = [] ∧ ys = xs
theorem PL.sp {pre : List V → Hp → List V → Prop} {vs xs : List V} {H : Hp} (h : ∀ H1, Ex H H1 → pre vs H1 xs) : SpL (PL pre) vs H xs := fun H1 e Q q E => ⟨xs, h H1 e, q⟩
def preKv (g : Kd → V) : List V → Hp → V → Prop := fun vs H v => ∃ k : Kd, vs = [k.v] ∧ v = g k
theorem spKv {g : Kd → V} {H : Hp} {k : Kd} : SpV (PV (preKv g)) [k.v] H (g k) := PV.sp fun H1 e => ⟨k, rfl, rfl⟩
def Kd.ix : Kd → Nat
  | .ch => 0 | .sc => 1 | .uc => 2 | .sh => 3 | .us => 4 | .it => 5 | .ui => 6 | .lo => 7 | .ul => 8 | .wi => 9 | .uw => 10
theorem kd_at : ∀ {m : Nat} {z : V}, vKINDS[m]? = some z → ∃ k : Kd, k.ix = m ∧ z = k.v
  | 0, _, h => ⟨.ch, rfl, (Option.some.inj h).symm⟩
  | 1, _, h => ⟨.sc, rfl, (Option.some.inj h).symm⟩
  | 2, _, h => ⟨.uc, rfl, (Option.some.inj h).symm⟩
  | 3, _, h => ⟨.sh, rfl, (Option.some.inj h).symm⟩
  | 4, _, h => ⟨.us, rfl, (Option.some.inj h).symm⟩
  | 5, _, h => ⟨.it, rfl, (Option.some.inj h).symm⟩
  | 6, _, h => ⟨.ui, rfl, (Option.some.inj h).symm⟩
  | 7, _, h => ⟨.lo, rfl, (Option.some.inj h).symm⟩
  | 8, _, h => ⟨.ul, rfl, (Option.some.inj h).symm⟩
  | 9, _, h => ⟨.wi, rfl, (Option.some.inj h).symm⟩
  | 10, _, h => ⟨.uw, rfl, (Option.some.inj h).symm⟩
  | _ + 11, _, h => nomatch h
theorem kd_eq (k l : Kd) : eqV k.v l.v = decide (k = l) := by cases k <;> cases l <;> rfl
/-- xs.index(k) in the list of all types -/
theorem ev_index {K : PySem.W.Frag} {σ : L2.St} {H : Hp} {ta tb : TE} {k : Kd} (ha : EvL ta σ H vKINDS) (hb : ∀ H1, Ex H H1 → Ev tb σ H1 k.v) : Ev (tBM K "list" (rIndex K) ta (tCons tb tNil)) σ H (.int (k.ix : Nat)) := fun H1 e Q q =>
  ha H1 e _ fun p H2 _ e2 h2 => ⟨.inl ⟨rfl, _, sq_of h2⟩, hb H2 (e.trans e2) H2 (Ex.refl H2) _ fun H3 e3 =>
    ⟨p, vKINDS, k.v, k.ix, k.v, rfl, rfl, sq_of (e3 _ _ h2), rfl, rfl, by cases k <;> rfl, by rw [kd_eq]; exact decide_eq_true rfl, fun m z hm hz => by
      obtain ⟨k2, e4, rfl⟩ := kd_at hz
      rw [kd_eq]
      refine decide_eq_false fun e5 => ?_
      subst e5
      omega, q H3 (e2.trans e3)⟩⟩

theorem draw_at {σ : L2.St} {H : Hp} {ta : TA} {r : Addr} {l : Int} {n : Nat} {E : XK} {Q : VK} (h : EvA ta σ H [.ref r, .int l]) (l0 : 0 < l) (l1 : l.natAbs.log2 < 9000) (hn : n < 2 ^ 60) (g : Rng H r n)
    (k : ∀ H' v, Bu r H H' → Rng H' r (n + 1) → 0 ≤ v → v < l → Q (.int v) H') : tCall spDraw [] E ta σ H Q :=
  h H (Ex.refl H) _ fun H1 e1 => ⟨r, l, n, rfl, l0, l1, hn, g.ex e1, fun H' v b g2 v0 v1 => k H' v ((Bu.of e1).trans b) g2 v0 v1⟩
theorem log_small {l : Int} (h : l.natAbs < 2 ^ 200) : l.natAbs.log2 < 9000 := by
  have := PySem.Flt.log2_lt_of (by decide : 0 < 200) h
  omega
/-- widths so far: they ascend from low, the last is at most here -/
def Asc : Int → List Int → Int → Prop
  | low, [], here => low ≤ here
  | low, x :: xs, here => low ≤ x ∧ Asc x xs here
theorem Asc.le : ∀ {low : Int} {xs : List Int} {here : Int}, Asc low xs here → low ≤ here
  | _, [], _, h => h
  | _, x :: xs, _, h => Int.le_trans h.1 (Asc.le h.2)
theorem Asc.add : ∀ {low : Int} {xs : List Int} {here h2 : Int}, Asc low xs here → here ≤ h2 → Asc low (xs ++ [h2]) h2
  | _, [], _, _, h, h' => ⟨Int.le_trans h h', Int.le_refl _⟩
  | _, x :: xs, _, _, h, h' => ⟨h.1, Asc.add h.2 h'⟩
def spScheme (K : PySem.W.Frag) : Sp := fun vs H Q _ => ∃ r low top n, vs = [.ref r, .int low, .int top] ∧ 2 ≤ low ∧ low ≤ top ∧ top ≤ 128 ∧ n < 2 ^ 50 ∧ Rng H r n ∧
  ∀ p H' m, Bu r H H' → Rng H' r (n + 20) → AtM K H' p m → m.Ok → low ≤ m.w0 → (m.w4 : Int) ≤ top → Q (.ref p) H'

theorem Md.small (m : Md) (h : m.Ok) (k : Kd) : (m.low k).natAbs < 2 ^ 140 ∧ (m.high k).natAbs < 2 ^ 140 := by
  obtain ⟨b0, b1⟩ := h.b k
  have key : ∀ n : Nat, n ≤ 128 → (2 : Int) ^ n ≤ 2 ^ 128 ∧ 1 ≤ (2 : Int) ^ n := fun n hn => by
    have e1 : ((2 : Int) ^ n) = ((2 ^ n : Nat) : Int) := by
      rw [Int.natCast_pow]
      rfl
    have e2 : (2 : Nat) ^ n ≤ 2 ^ 128 := Nat.pow_le_pow_right (by decide) hn
    have e3 : 1 ≤ (2 : Nat) ^ n := Nat.one_le_two_pow
    rw [e1]
    omega
  obtain ⟨k1, k2⟩ := key (m.b k) b1
  obtain ⟨k3, k4⟩ := key (m.b k - 1) (by omega)
  unfold Md.low Md.high
  split <;> omega

theorem pick2 {K : PySem.W.Frag} {σ : L2.St} {H : Hp} {r : Addr} {a b : Int} {n j : Nat} {E : XK} {Q : VK} (g : Rng H r n) (hn : n < 2 ^ 60) (hj : σ[j]? = some (some (.ref r))) (k : ∀ H' x, Bu r H H' → Rng H' r (n + 1) → (x = a ∨ x = b) → Q (.int x) H') :
    tOp (rIxL K) (tLst (tCons (tC (.int a)) (tCons (tC (.int b)) tNil))) (tCall spDraw [] E (tCons (tVar j) (tCons (tC (.int 2)) tNil))) σ H Q := by
  refine ⟨by show 2 ≤ sizeLine; decide, fun t nt => ?_⟩
  have e1 : Ex H (upd H t (.lst [.int a, .int b])) := Ex.new nt
  have htr : t ≠ r := by
    obtain ⟨d, s2, c, q, _⟩ := g
    exact fun z => by
      rw [z, q] at nt
      cases nt
  refine draw_at (l := 2) (n := n) (ea_cons (ev_var hj) (ea_cons ev_c ea_nil)) (by decide) (log_small (by decide)) hn (g.ex e1) fun H2 v b2 g2 v0 v1 => ?_
  have h2 : H2 t = some (.lst [.int a, .int b]) := b2 _ _ htr upd_same
  have hv : v = 0 ∨ v = 1 := by omega
  rcases hv with rfl | rfl
  · exact ⟨t, _, 0, _, rfl, rfl, sq_of h2, atI_nat (j := 0) rfl, k H2 a ((Bu.of e1).trans b2) g2 (.inl rfl)⟩
  · exact ⟨t, _, 1, _, rfl, rfl, sq_of h2, atI_nat (j := 1) rfl, k H2 b ((Bu.of e1).trans b2) g2 (.inr rfl)⟩
def spLaw (K : PySem.W.Frag) : Sp := fun vs H Q _ => ∃ (a : Addr) (ns : List Int), vs = [.ref a] ∧ SqL K H a (ns.map V.int) ∧ ns.length ≤ 63 ∧ ∀ H', Q (.bl true) H'
theorem rv_eqDT {K : PySem.W.Frag} {H : Hp} {p q : Addr} {d e : PyData} (hd : ∀ H1, Ex H H1 → Dp K H1 (.ref p) d) (he : ∀ H1, Ex H H1 → Dp K H1 (.ref q) e) (sd : SeqAt.shaped d = true) (se : SeqAt.shaped e = true) {b : Bool} (hb : PyData.eqv d e = b) :
    RV (rEqD K) (.ref p) (.ref q) H (.bl b) := fun H1 e1 Q q => ⟨d, e, hd H1 e1, he H1 e1, sd, se, by rw [hb]; exact q H1 (Ex.refl H1)⟩

end Cf

namespace Cf
open PySem PySem.Spec PyProof.Rows L2 Evl
/-! ## promotion, common types -/
def uKd : Nat → Kd
  | 0 => .uc | 1 => .us | 2 => .ui | 3 => .ul | _ => .uw
def sKd : Nat → Kd
  | 2 => .it | 3 => .lo | _ => .wi
def Md.prom (m : Md) (k : Kd) : Kd := if 2 ≤ k.rk then k else if m.un k = true ∧ m.b .it ≤ m.b k then .ui else .it
def Md.mix (m : Md) (u s : Kd) : Kd := if s.rk ≤ u.rk then u else if m.b u < m.b s then s else uKd s.rk
def Md.com2 (m : Md) (a b : Kd) : Kd := if m.un a = m.un b then (if b.rk ≤ a.rk then a else b) else if m.un a = true then m.mix a b else m.mix b a
def Md.com (m : Md) (k l : Kd) : Kd := m.com2 (m.prom k) (m.prom l)
/-- the six promoted types -/
def Kd.big (k : Kd) : Prop := k = .it ∨ k = .ui ∨ k = .lo ∨ k = .ul ∨ k = .wi ∨ k = .uw
theorem Md.prom_big (m : Md) (k : Kd) : (m.prom k).big := by
  unfold Md.prom
  by_cases h : 2 ≤ k.rk
  · rw [if_pos h]
    revert h
    unfold Kd.big
    cases k <;> decide
  · rw [if_neg h]
    by_cases h2 : m.un k = true ∧ m.b .it ≤ m.b k
    · rw [if_pos h2]
      exact .inr (.inl rfl)
    · rw [if_neg h2]
      exact .inl rfl
/-- a pure def's promise over a model at p and types -/
theorem ev_mk {K : PySem.W.Frag} {σ : L2.St} {H : Hp} {p : Addr} {m : Md} {k : Kd} {g : Md → Kd → V} {i j : Nat} (a : AtM K H p m) (o : m.Ok) (hi : σ[i]? = some (some (.ref p))) (hj : σ[j]? = some (some k.v)) :
    Ev (tCall (PV (preMK K g)) [] E0 (tCons (tVar i) (tCons (tVar j) tNil))) σ H (g m k) := ev_call (ea_cons (ev_var hi) (ea_cons (ev_var hj) ea_nil)) (spMK a o)
/-- RANKS[k] -/
def tRk (K : PySem.W.Frag) (w : World) (aR : Addr) (tk : TE) : TE := tOp (rIxD K w) (tC (.ref aR)) tk
theorem ev_rk {K : PySem.W.Frag} {w : World} {aR : Addr} (tR : ∀ k : Kd, KDct K w aR k.s (.int k.rk)) {σ : L2.St} {H : Hp} {tk : TE} {k : Kd} (h : Ev tk σ H k.v) : Ev (tOp (rIxD K w) (tC (.ref aR)) tk) σ H (.int (k.rk : Nat)) :=
  ev_op ev_c h fun H1 _ Q1 q1 => ⟨aR, k.s, _, rfl, rfl, tR k, q1 H1 (Ex.refl H1)⟩
theorem pick3 {K : PySem.W.Frag} {σ : L2.St} {H : Hp} {r : Addr} {a b c : Int} {n j : Nat} {E : XK} {Q : VK} (g : Rng H r n) (hn : n < 2 ^ 60) (hj : σ[j]? = some (some (.ref r))) (k : ∀ H' x, Bu r H H' → Rng H' r (n + 1) → (x = a ∨ x = b ∨ x = c) → Q (.int x) H') :
    tOp (rIxL K) (tLst (tCons (tC (.int a)) (tCons (tC (.int b)) (tCons (tC (.int c)) tNil)))) (tCall spDraw [] E (tCons (tVar j) (tCons (tC (.int 3)) tNil))) σ H Q := by
  refine ⟨by show 3 ≤ sizeLine; decide, fun t nt => ?_⟩
  have e1 : Ex H (upd H t (.lst [.int a, .int b, .int c])) := Ex.new nt
  have htr : t ≠ r := by
    obtain ⟨d, s2, c, q, _⟩ := g
    exact fun z => by
      rw [z, q] at nt
      cases nt
  refine draw_at (l := 3) (n := n) (ea_cons (ev_var hj) (ea_cons ev_c ea_nil)) (by decide) (log_small (by decide)) hn (g.ex e1) fun H2 v b2 g2 v0 v1 => ?_
  have h2 : H2 t = some (.lst [.int a, .int b, .int c]) := b2 _ _ htr upd_same
  have hv : v = 0 ∨ v = 1 ∨ v = 2 := by omega
  rcases hv with rfl | rfl | rfl
  · exact ⟨t, _, 0, _, rfl, rfl, sq_of h2, atI_nat (j := 0) rfl, k H2 a ((Bu.of e1).trans b2) g2 (.inl rfl)⟩
  · exact ⟨t, _, 1, _, rfl, rfl, sq_of h2, atI_nat (j := 1) rfl, k H2 b ((Bu.of e1).trans b2) g2 (.inr (.inl rfl))⟩
  · exact ⟨t, _, 2, _, rfl, rfl, sq_of h2, atI_nat (j := 2) rfl, k H2 c ((Bu.of e1).trans b2) g2 (.inr (.inr rfl))⟩
/-! ### the law's own way -/
def lawOf (r : Nat) (s : Bool) : Kd := if s = true then sKd r else uKd r
def Md.lawCom (m : Md) (a b : Kd) : Kd :=
  if (!m.un a) = (!m.un b) then lawOf (max a.rk b.rk) (!m.un a)
  else lawOf (max a.rk b.rk) (decide ((if (!(!m.un a)) = true then a else b).rk < max a.rk b.rk) && decide (m.w (if (!(!m.un a)) = true then a else b).rk < m.w (max a.rk b.rk)))
theorem Md.lawCom_eq (m : Md) {a b : Kd} (ha : a.big) (hb : b.big) : m.lawCom a b = m.com2 a b := by
  rcases ha with rfl | rfl | rfl | rfl | rfl | rfl <;> rcases hb with rfl | rfl | rfl | rfl | rfl | rfl <;>
    simp [Md.lawCom, Md.com2, Md.mix, Md.un, Kd.rk, lawOf, sKd, uKd, Md.b, Md.w]
theorem big_rk {k : Kd} (h : k.big) : 2 ≤ k.rk ∧ k.rk ≤ 4 := by
  rcases h with rfl | rfl | rfl | rfl | rfl | rfl <;> decide
def preOf : List V → Hp → V → Prop := fun vs H v => ∃ (r : Nat) (s : Bool), vs = [.int r, .bl s] ∧ 2 ≤ r ∧ r ≤ 4 ∧ v = (lawOf r s).v
theorem spOf {H : Hp} {r : Nat} {s : Bool} (h0 : 2 ≤ r) (h1 : r ≤ 4) : SpV (PV preOf) [.int r, .bl s] H (lawOf r s).v := PV.sp fun H1 e => ⟨r, s, rfl, h0, h1, rfl⟩
def preM1 (K : PySem.W.Frag) (v : V) : List V → Hp → V → Prop := fun vs H z => ∃ p m, vs = [.ref p] ∧ AtM K H p m ∧ m.Ok ∧ z = v
theorem spM1 {K : PySem.W.Frag} {H : Hp} {p : Addr} {m : Md} {v : V} (a : AtM K H p m) (o : m.Ok) : SpV (PV (preM1 K v)) [.ref p] H v := PV.sp fun H1 e => ⟨p, m, rfl, a.ex e, o, rfl⟩
/-- != of two new lists that hold the same -/
theorem ev_neL {K : PySem.W.Frag} {σ : L2.St} {H : Hp} {ta tb : TE} {xs ys : List V} {ds : List PyData} (ha : EvL ta σ H xs) (hb : EvL tb σ H ys) (hx : ∀ H1, Ex H H1 → DpAll K H1 xs ds) (hy : ∀ H1, Ex H H1 → DpAll K H1 ys ds)
    (hs : SeqAt.shaped (.list ds) = true) (he : PyData.eqv (.list ds) (.list ds) = true) : Ev (tOp (rNeD K) ta tb) σ H (.bl false) :=
  ev_opLL ha hb fun p q H1 hp hq e => fun H2 e2 Q k => ⟨.list ds, .list ds, .lst (sq_of (e2 _ _ hp)) (hx H2 (e.trans e2)), .lst (sq_of (e2 _ _ hq)) (hy H2 (e.trans e2)), hs, hs, by rw [he]; exact k H2 (Ex.refl H2)⟩
theorem ev_eqL {K : PySem.W.Frag} {σ : L2.St} {H : Hp} {ta tb : TE} {a : Addr} {ys : List V} {ds : List PyData} (ha : Ev ta σ H (.ref a)) (hb : EvL tb σ H ys) (hx : ∀ H1, Ex H H1 → Dp K H1 (.ref a) (.list ds)) (hy : ∀ H1, Ex H H1 → DpAll K H1 ys ds)
    (hs : SeqAt.shaped (.list ds) = true) (he : PyData.eqv (.list ds) (.list ds) = true) : Ev (tOp (rEqD K) ta tb) σ H (.bl true) :=
  ev_opL ha hb fun q H1 hq e => fun H2 e2 Q k => ⟨.list ds, .list ds, hx H2 (e.trans e2), .lst (sq_of (e2 _ _ hq)) (hy H2 (e.trans e2)), hs, hs, by rw [he]; exact k H2 (Ex.refl H2)⟩
theorem dp_kd {K : PySem.W.Frag} {H : Hp} : ∀ ks : List Kd, DpAll K H (ks.map Kd.v) (ks.map fun k => .str k.s)
  | [] => .nil
  | k :: ks => .cons (.str _) (dp_kd ks)
theorem kd_eqs : ∀ k : Kd, PyData.eqv (.str k.s) (.str k.s) = true := fun k => by cases k <;> rfl
theorem eqv_kd : ∀ ks : List Kd, PyData.eqvAll (ks.map fun k => .str k.s) (ks.map fun k => .str k.s) = true
  | [] => rfl
  | k :: ks => by
    show (PyData.eqv (.str k.s) (.str k.s) && PyData.eqvAll _ _) = true
    rw [kd_eqs k, eqv_kd ks]
    rfl
theorem Md.com_comm (m : Md) (k l : Kd) : m.com k l = m.com l k := by
  unfold Md.com
  have ha := m.prom_big k
  have hb := m.prom_big l
  generalize m.prom k = a at ha ⊢
  generalize m.prom l = b at hb ⊢
  rcases ha with rfl | rfl | rfl | rfl | rfl | rfl <;> rcases hb with rfl | rfl | rfl | rfl | rfl | rfl <;>
    simp [Md.com2, Md.mix, Md.un, Kd.rk]
/-- a list comprehension's or a loop's list of all types, made anew -/
theorem el_labels {σ : L2.St} {H : Hp} : EvL (tCall (PL (preNil vKINDS)) [] E0 tNil) σ H vKINDS := el_call ea_nil (PL.sp fun H7 e7 => ⟨rfl, rfl⟩)
def kdD (ks : List Kd) : List PyData := ks.map fun k => .str k.s
theorem kdl_lay : ∀ ks : List Kd, PyData.canLayAll0 (kdD ks) = true
  | [] => by simp [kdD, PyData.canLayAll0]
  | k :: ks => by
    have ih := kdl_lay ks
    have hk : PyData.strOk k.s = true := by cases k <;> decide +kernel
    unfold kdD at ih ⊢
    simp [PyData.canLayAll0, PyData.canLay0, ih, hk]
theorem kdl_depth : ∀ ks : List Kd, PyData.depthAll (kdD ks) ≤ 2
  | [] => by simp [kdD, PyData.depthAll]
  | k :: ks => by
    have ih := kdl_depth ks
    unfold kdD at ih ⊢
    simp only [List.map_cons, PyData.depthAll, PyData.depth]
    omega
theorem kdl_shaped (ks : List Kd) : SeqAt.shaped (.list (kdD ks)) = true := by
  have h1 := kdl_depth ks
  show (PyData.canLay0 (.list (kdD ks)) && decide (PyData.depth (.list (kdD ks)) ≤ 64)) = true
  rw [Bool.and_eq_true]
  refine ⟨by simp only [PyData.canLay0]; exact kdl_lay ks, decide_eq_true ?_⟩
  simp only [PyData.depth]
  omega
theorem kdl_eqv (ks : List Kd) : PyData.eqv (.list (kdD ks)) (.list (kdD ks)) = true := by
  simp only [PyData.eqv]
  exact eqv_kd ks
theorem ev_neK {K : PySem.W.Frag} {σ : L2.St} {H : Hp} {ta tb : TE} {xs ys : List V} (ks : List Kd) (ha : EvL ta σ H xs) (hb : EvL tb σ H ys) (hx : xs = ks.map Kd.v := by rfl) (hy : ys = ks.map Kd.v := by rfl) : Ev (tOp (rNeD K) ta tb) σ H (.bl false) := by
  subst hx hy
  exact ev_neL (ds := kdD ks) ha hb (fun _ _ => dp_kd ks) (fun _ _ => dp_kd ks) (kdl_shaped ks) (kdl_eqv ks)
theorem ev_eqK {K : PySem.W.Frag} {σ : L2.St} {H : Hp} {ta tb : TE} {a : Addr} {xs ys : List V} (ks : List Kd) (ha : Ev ta σ H (.ref a)) (hb : EvL tb σ H ys) (hl : SqL K H a xs) (hx : xs = ks.map Kd.v := by rfl) (hy : ys = ks.map Kd.v := by rfl) : Ev (tOp (rEqD K) ta tb) σ H (.bl true) := by
  subst hx hy
  exact ev_eqL (ds := kdD ks) ha hb (fun _ e => .lst (ex_l e hl) (dp_kd ks)) (fun _ _ => dp_kd ks) (kdl_shaped ks) (kdl_eqv ks)
end Cf

namespace Cf
open PySem PySem.Spec PyProof.Rows L2 Evl
/-! ## conversion -/
def Md.conv (m : Md) (k : Kd) (i : Int) : Int := (i - m.low k) % (m.high k - m.low k + 1) + m.low k
theorem p2 (n : Nat) : (0 : Int) < 2 ^ n := Int.pow_pos (by decide)
theorem p2s {n : Nat} (h : 1 ≤ n) : (2 : Int) ^ n = 2 * 2 ^ (n - 1) := by
  obtain ⟨k, rfl⟩ : ∃ k, n = k + 1 := ⟨n - 1, by omega⟩
  rw [Nat.add_sub_cancel, Int.pow_succ, Int.mul_comm]
theorem Md.span (m : Md) (h : m.Ok) (k : Kd) : m.high k - m.low k + 1 = 2 ^ m.b k := by
  obtain ⟨b0, _⟩ := h.b k
  have e := p2s (n := m.b k) (by omega)
  unfold Md.low Md.high
  split <;> omega
theorem Md.conv_in (m : Md) (h : m.Ok) (k : Kd) (i : Int) : m.low k ≤ m.conv k i ∧ m.conv k i ≤ m.high k := by
  have e := m.span h k
  have p := p2 (m.b k)
  unfold Md.conv
  have h0 := Int.emod_nonneg (i - m.low k) (show m.high k - m.low k + 1 ≠ 0 by omega)
  have h1 := Int.emod_lt_of_pos (i - m.low k) (show 0 < m.high k - m.low k + 1 by omega)
  omega
theorem Md.conv_mod (m : Md) (h : m.Ok) (k : Kd) (i : Int) : (m.conv k i - i) % 2 ^ m.b k = 0 := by
  have e := m.span h k
  unfold Md.conv
  rw [e]
  have h1 := Int.emod_add_mul_ediv (i - m.low k) (2 ^ m.b k)
  have h2 : (i - m.low k) % 2 ^ m.b k + m.low k - i = 2 ^ m.b k * (-((i - m.low k) / 2 ^ m.b k)) := by
    rw [Int.mul_neg]
    omega
  rw [h2]
  exact Int.mul_emod_right _ _
/-- the law's own way to say that an integer is held -/
theorem Md.held (m : Md) (h : m.Ok) (k : Kd) (i : Int) : (if (!m.un k) = true then decide (0 - 2 ^ m.b k ≤ 2 * i ∧ 2 * i < 2 ^ m.b k) else decide (0 ≤ i ∧ i < 2 ^ m.b k)) = decide (m.low k ≤ i ∧ i ≤ m.high k) := by
  obtain ⟨b0, _⟩ := h.b k
  have e := p2s (n := m.b k) (by omega)
  have key1 : (0 - 2 ^ m.b k ≤ 2 * i ∧ 2 * i < 2 ^ m.b k) ↔ (-(2 ^ (m.b k - 1)) ≤ i ∧ i ≤ 2 ^ (m.b k - 1) - 1) := by
    rw [e]
    generalize (2 : Int) ^ (m.b k - 1) = x
    omega
  have key2 : (0 ≤ i ∧ i < (2 : Int) ^ m.b k) ↔ (0 ≤ i ∧ i ≤ 2 ^ m.b k - 1) := by
    generalize (2 : Int) ^ m.b k = x
    omega
  unfold Md.low Md.high
  cases m.un k
  · exact decide_eq_decide.mpr key1
  · exact decide_eq_decide.mpr key2
theorem ev_chLeLt {σ : L2.St} {H : Hp} {ta tb tc : TE} {a b c : Int} (ha : Ev ta σ H (.int a)) (hb : Ev tb σ H (.int b)) (hc : Ev tc σ H (.int c)) :
    Ev (tChain (rI0 fun i j => .bl (decide (i ≤ j))) (rI0 fun i j => .bl (decide (i < j))) ta tb tc) σ H (.bl (decide (a ≤ b ∧ b < c))) := fun H1 e Q q =>
  ha H1 e _ fun H2 e2 => hb H2 (e.trans e2) _ fun H3 e3 => ⟨a, b, rfl, rfl, _, rfl, by
    have e4 := (e.trans e2).trans e3
    by_cases h1 : a ≤ b
    · rw [decide_eq_true h1]
      refine iteT (hc H3 e4 _ fun H4 e5 => ⟨b, c, rfl, rfl, ?_⟩)
      have e6 : decide (b < c) = decide (a ≤ b ∧ b < c) := by
        by_cases h2 : b < c
        · rw [decide_eq_true h2, decide_eq_true ⟨h1, h2⟩]
        · rw [decide_eq_false h2, decide_eq_false fun z => h2 z.2]
      show Q (.bl (decide (b < c))) H4
      rw [e6]
      exact q H4 ((e2.trans e3).trans e5)
    · rw [decide_eq_false h1]
      refine iteF ?_
      have e6 : decide (a ≤ b ∧ b < c) = false := decide_eq_false fun z => h1 z.1
      rw [e6] at q
      exact q H3 (e2.trans e3)⟩
theorem ev_isi {K : PySem.W.Frag} {σ : L2.St} {H : Hp} {ta : TE} {i : Int} {n : String} {b : Bool} (ha : Ev ta σ H (.int i)) (hb : PySem.W.kitOne K (.type "int") (.type n) = some b) :
    Ev (tCB (rIsi K) (tCons ta (tCons (tC (.ty n)) tNil))) σ H (.bl b) := ev_cb (ea_cons ha (ea_cons ev_c ea_nil)) fun H1 _ Q1 q1 => ⟨.int i, .ty n, .type "int", .type n, b, rfl, .ty n, .base (.int i), hb, q1 H1 (Ex.refl H1)⟩
theorem drop_raw {σ : L2.St} {H : Hp} {te : TE} {tz : TS} {D : Ends} (h : te σ H fun _ H1 => tz D σ H1) : tSeq (tDrop te) tz D σ H := h
theorem app_raw {K : PySem.W.Frag} {σ : L2.St} {H : Hp} {i : Nat} {l : Addr} {xs : List V} {tr : TA} {Q : VK} (hi : σ[i]? = some (some (.ref l))) (hl : H l = some (.lst xs)) (h : tr σ H fun ys H2 => rAppend (.ref l) ys H2 Q) : tBM K "list" rAppend (tVar i) tr σ H Q :=
  ⟨.ref l, hi, .inl ⟨rfl, xs, sq_of hl⟩, h⟩
def spRightN (K : PySem.W.Frag) (c : Nat) : Sp := fun vs H Q _ => ∃ r p k m n, vs = [.ref r, .ref p, Kd.v k] ∧ AtM K H p m ∧ m.Ok ∧ n < 2 ^ 50 ∧ Rng H r n ∧ ∀ H', Bu r H H' → Rng H' r (n + c) → Q (.bl true) H'
example {K : PySem.W.Frag} : PySem.W.kitOne K (.type "int") (.type "bool") = some false := kit_ty (by decide +kernel)
end Cf

namespace Cf
open PySem PySem.Spec PyProof.Rows L2 Evl
/-! ## conversions behind one another; what common types hold -/
theorem Md.conv_dvd (m : Md) (h : m.Ok) (k : Kd) (i : Int) : (2 : Int) ^ m.b k ∣ m.conv k i - i := Int.dvd_of_emod_eq_zero (m.conv_mod h k i)
theorem Md.conv_eq (m : Md) (h : m.Ok) (k : Kd) {i y : Int} (h0 : m.low k ≤ y) (h1 : y ≤ m.high k) (hd : (2 : Int) ^ m.b k ∣ y - i) : m.conv k i = y := by
  obtain ⟨c0, c1⟩ := m.conv_in h k i
  have e := m.span h k
  have p := p2 (m.b k)
  obtain ⟨q1, e1⟩ := m.conv_dvd h k i
  obtain ⟨q2, e2⟩ := hd
  have e3 : m.conv k i - y = 2 ^ m.b k * (q1 - q2) := by
    rw [Int.mul_sub]
    omega
  have hq : q1 - q2 = 0 := by
    by_cases z : q1 - q2 ≥ 1
    · have := Int.mul_le_mul_of_nonneg_left z (Int.le_of_lt p)
      omega
    · by_cases z2 : q1 - q2 ≤ -1
      · have := Int.mul_le_mul_of_nonneg_left z2 (Int.le_of_lt p)
        omega
      · omega
  rw [hq, Int.mul_zero] at e3
  omega
theorem Md.conv_conv (m : Md) (h : m.Ok) (k : Kd) (i : Int) : m.conv k (m.conv k i) = m.conv k i :=
  m.conv_eq h k (m.conv_in h k i).1 (m.conv_in h k i).2 ⟨0, by omega⟩
theorem Md.conv_held (m : Md) (h : m.Ok) (k : Kd) (i : Int) : (m.low k ≤ i ∧ i ≤ m.high k) ↔ m.conv k i = i := by
  constructor
  · intro z
    exact m.conv_eq h k z.1 z.2 ⟨0, by omega⟩
  · intro z
    have := m.conv_in h k i
    rw [z] at this
    exact this
theorem Md.conv_less (m : Md) (h : m.Ok) {k l : Kd} (hb : m.b l ≤ m.b k) (i : Int) : m.conv l (m.conv k i) = m.conv l i := by
  refine m.conv_eq h l (m.conv_in h l i).1 (m.conv_in h l i).2 ?_
  have d1 := m.conv_dvd h l i
  have d2 : (2 : Int) ^ m.b l ∣ m.conv k i - i := Int.dvd_trans ⟨2 ^ (m.b k - m.b l), by rw [← Int.pow_add]; congr 1; omega⟩ (m.conv_dvd h k i)
  have d3 := Int.dvd_sub d1 d2
  have e : m.conv l i - i - (m.conv k i - i) = m.conv l i - m.conv k i := by omega
  rw [e] at d3
  exact d3
theorem Md.conv_sum (m : Md) (h : m.Ok) (k : Kd) (i j : Int) : m.conv k (m.conv k i + m.conv k j) = m.conv k (i + j) := by
  refine m.conv_eq h k (m.conv_in h k _).1 (m.conv_in h k _).2 ?_
  have d1 := m.conv_dvd h k (i + j)
  have d2 := Int.dvd_add (m.conv_dvd h k i) (m.conv_dvd h k j)
  have d3 := Int.dvd_sub d1 d2
  have e : m.conv k (i + j) - (i + j) - (m.conv k i - i + (m.conv k j - j)) = m.conv k (i + j) - (m.conv k i + m.conv k j) := by omega
  rw [e] at d3
  exact d3
theorem p2le {a b : Nat} (h : a ≤ b) : (2 : Int) ^ a ≤ 2 ^ b := by
  have e : ∀ n : Nat, (2 : Int) ^ n = ((2 ^ n : Nat) : Int) := fun n => by
    rw [Int.natCast_pow]
    rfl
  rw [e, e]
  exact_mod_cast Nat.pow_le_pow_right (by decide) h
theorem Md.Ok.wle {m : Md} (h : m.Ok) {i j : Nat} (hij : i ≤ j) : m.w i ≤ m.w j := by
  obtain ⟨h0, h1, h2, h3, h4, h5⟩ := h
  match i, j, hij with
  | 0, 0, _ => exact Nat.le_refl _
  | 0, 1, _ => simp only [Md.w]; omega
  | 0, 2, _ => simp only [Md.w]; omega
  | 0, 3, _ => simp only [Md.w]; omega
  | 0, n + 4, _ => simp only [Md.w]; omega
  | 1, 1, _ => exact Nat.le_refl _
  | 1, 2, _ => simp only [Md.w]; omega
  | 1, 3, _ => simp only [Md.w]; omega
  | 1, n + 4, _ => simp only [Md.w]; omega
  | 2, 2, _ => exact Nat.le_refl _
  | 2, 3, _ => simp only [Md.w]; omega
  | 2, n + 4, _ => simp only [Md.w]; omega
  | 3, 3, _ => exact Nat.le_refl _
  | 3, n + 4, _ => simp only [Md.w]; omega
  | k + 4, n + 4, _ => exact Nat.le_refl _
/-- b holds what a holds -/
def Md.In (m : Md) (a b : Kd) : Prop := m.high a ≤ m.high b ∧ m.low b ≤ m.low a
/-- b holds what a holds from 0 on -/
theorem Md.in_same (m : Md) {a b : Kd} (hs : m.un a = m.un b) (hb : m.b a ≤ m.b b) : m.In a b := by
  unfold Md.In Md.high Md.low
  rw [hs]
  have h1 := p2le hb
  have h2 := p2le (a := m.b a - 1) (b := m.b b - 1) (by omega)
  split <;> omega
theorem Md.in_us (m : Md) {u s : Kd} (hu : m.un u = true) (hs : m.un s = false) (hb : m.b u < m.b s) : m.In u s := by
  unfold Md.In Md.high Md.low
  rw [hu, hs]
  have h1 := p2le (a := m.b u) (b := m.b s - 1) (by omega)
  have h2 := p2 (m.b s - 1)
  simp
  omega
theorem Md.hi_su (m : Md) (h : m.Ok) {u s : Kd} (hu : m.un u = true) (hs : m.un s = false) (hb : m.b s ≤ m.b u) : m.high s ≤ m.high u := by
  unfold Md.high
  rw [hu, hs]
  have h1 := p2le (a := m.b s - 1) (b := m.b u) (by omega)
  simp
  omega
theorem Md.prom_in (m : Md) (h : m.Ok) (k : Kd) : m.In k (m.prom k) := by
  unfold Md.prom
  by_cases h2 : 2 ≤ k.rk
  · rw [if_pos h2]
    exact ⟨Int.le_refl _, Int.le_refl _⟩
  · rw [if_neg h2]
    have hw : m.b k ≤ m.b .it := h.wle (i := k.rk) (j := 2) (by omega)
    have hw2 : m.b k ≤ m.b .ui := hw
    by_cases h3 : m.un k = true ∧ m.b .it ≤ m.b k
    · rw [if_pos h3]
      exact m.in_same h3.1 hw2
    · rw [if_neg h3]
      cases hu : m.un k
      · exact m.in_same hu hw
      · exact m.in_us hu rfl (Nat.lt_of_not_le fun z => h3 ⟨hu, z⟩)
theorem uKd_un (m : Md) (r : Nat) : m.un (uKd r) = true := by
  match r with
  | 0 => rfl
  | 1 => rfl
  | 2 => rfl
  | 3 => rfl
  | _ + 4 => rfl
theorem uKd_b (m : Md) {r : Nat} (h : r ≤ 4) : m.b (uKd r) = m.w r := by
  match r, h with
  | 0, _ => rfl
  | 1, _ => rfl
  | 2, _ => rfl
  | 3, _ => rfl
  | 4, _ => rfl
theorem Md.mix_ok (m : Md) (h : m.Ok) {u s : Kd} (hu : m.un u = true) (hs : m.un s = false) :
    m.high u ≤ m.high (m.mix u s) ∧ m.high s ≤ m.high (m.mix u s) ∧ (m.un (m.mix u s) = false → m.low (m.mix u s) ≤ m.low u ∧ m.low (m.mix u s) ≤ m.low s) := by
  unfold Md.mix
  by_cases h1 : s.rk ≤ u.rk
  · rw [if_pos h1]
    exact ⟨Int.le_refl _, m.hi_su h hu hs (h.wle h1), fun z => by rw [hu] at z; cases z⟩
  · rw [if_neg h1]
    by_cases h2 : m.b u < m.b s
    · rw [if_pos h2]
      have hi := m.in_us hu hs h2
      exact ⟨hi.1, Int.le_refl _, fun _ => ⟨hi.2, Int.le_refl _⟩⟩
    · rw [if_neg h2]
      have eb : m.b (uKd s.rk) = m.b s := uKd_b m (by have := s.rk_lt; omega)
      have hle : m.b u ≤ m.b s := h.wle (i := u.rk) (j := s.rk) (by omega)
      refine ⟨(m.in_same (a := u) (b := uKd s.rk) (by rw [hu, uKd_un]) (by rw [eb]; exact hle)).1, m.hi_su h (uKd_un m _) hs (by rw [eb]; exact Nat.le_refl _), fun z => by rw [uKd_un] at z; cases z⟩
theorem Md.com2_ok (m : Md) (h : m.Ok) (a b : Kd) :
    m.high a ≤ m.high (m.com2 a b) ∧ m.high b ≤ m.high (m.com2 a b) ∧ (m.un (m.com2 a b) = false → m.low (m.com2 a b) ≤ m.low a ∧ m.low (m.com2 a b) ≤ m.low b) := by
  unfold Md.com2
  by_cases h1 : m.un a = m.un b
  · rw [if_pos h1]
    by_cases h2 : b.rk ≤ a.rk
    · rw [if_pos h2]
      have hi := m.in_same h1.symm (h.wle h2)
      exact ⟨Int.le_refl _, hi.1, fun _ => ⟨Int.le_refl _, hi.2⟩⟩
    · rw [if_neg h2]
      have hi := m.in_same h1 (h.wle (i := a.rk) (j := b.rk) (by omega))
      exact ⟨hi.1, Int.le_refl _, fun _ => ⟨hi.2, Int.le_refl _⟩⟩
  · rw [if_neg h1]
    cases hu : m.un a
    · have hb : m.un b = true := by
        cases hb : m.un b
        · rw [hu, hb] at h1
          exact absurd rfl h1
        · rfl
      rw [if_neg (by decide)]
      obtain ⟨x, y, z⟩ := m.mix_ok h hb hu
      exact ⟨y, x, fun w => (z w).symm⟩
    · have hb : m.un b = false := by
        cases hb : m.un b
        · rfl
        · rw [hu, hb] at h1
          exact absurd rfl h1
      rw [if_pos rfl]
      exact m.mix_ok h hu hb
theorem Md.com_ok (m : Md) (h : m.Ok) (k l : Kd) :
    m.high k ≤ m.high (m.com k l) ∧ m.high l ≤ m.high (m.com k l) ∧ (m.low (m.com k l) < 0 → m.low (m.com k l) ≤ m.low k) := by
  obtain ⟨x, y, z⟩ := m.com2_ok h (m.prom k) (m.prom l)
  have p1 := m.prom_in h k
  have p2' := m.prom_in h l
  refine ⟨Int.le_trans p1.1 x, Int.le_trans p2'.1 y, fun w => ?_⟩
  have hu : m.un (m.com2 (m.prom k) (m.prom l)) = false := by
    cases hu : m.un (m.com2 (m.prom k) (m.prom l))
    · rfl
    · have e : m.low (m.com k l) = 0 := by
        unfold Md.low Md.com
        rw [if_pos hu]
      omega
  exact Int.le_trans (z hu).1 p1.2
theorem Md.low_le (m : Md) (k : Kd) : m.low k ≤ 0 ∧ 0 ≤ m.high k := by
  unfold Md.low Md.high
  have h1 := p2 (m.b k)
  have h2 := p2 (m.b k - 1)
  split <;> omega
section
variable {K : PySem.W.Frag} {σ : L2.St} {H : Hp} {tl : TE} {xs : List V} {tu tz : TS} {D : Ends}
theorem q_forNT {j : Nat} (h : EvU tl σ H xs) (Pv : Addr → Nat → L2.St → Hp → Prop) (h0 : ∀ p H1, H p = none → Ex H H1 → H1 p = some (.tup xs) → Pv p 0 σ H1) (hl : ∀ p i σ' H', i ≤ xs.length → Pv p i σ' H' → SqT K H' p xs)
    (hs : ∀ p i x σ' H', xs[i]? = some x → Pv p i σ' H' → tu { D with nx := Pv p (i + 1), ct := Pv p (i + 1), bk := tz D } (σ'.set j (some x)) H') (hd : ∀ p σ' H', Pv p xs.length σ' H' → tz D σ' H') : tSeq (tFor (iTup K tl) (gName j) tu) tz D σ H :=
  h H (Ex.refl H) _ fun p H1 n1 e1 h1 => ⟨p, rfl, ⟨xs, st_of h1⟩, for_tup (D := { D with nx := tz D }) (Pv p) (h0 p H1 n1 e1 h1) (hl p) (hs p) (hd p)⟩
end
end Cf

namespace Cf
open PySem PySem.Spec PyProof.Rows L2 Evl
/-! ## == of dicts whose keys are tuples -/
section
variable {prog : Program} {w : World} {K : Type} [DecidableEq K] {knd : HeapKind prog w K} {A : Around} {E : Value → Shared → Prop} {s : Shared}
theorem samePairsH {nm : String} {a b : Addr} {ka kb : List (K × Addr × Value)} {Q : Bool → Shared → Prop} (hu : knd.room A) (ha : (a == sysModules) = false) (hb : (b == sysModules) = false)
    (da : s.heap.DictOfH knd a ka) (db : s.heap.DictOfH knd b kb) (hl : ka.length = kb.length)
    (hits : ∀ (i : Nat) (x : K × Addr × Value), ka[i]? = some x → (∃ (j : Nat) (p : Addr × Value), kb[j]? = some (x.1, p)) ∧ ∀ (j : Nat) (p : Addr × Value), kb[j]? = some (x.1, p) → SeqAt.EqAt A s x.2.2 p.2 true)
    (h : Q true s) : wpAny (model prog w) A (Builtin.Dict.samePairs nm a b) Q E s := by
  obtain ⟨oa, es, ep, hoa, _, hda, hea, hka, hna⟩ := da
  obtain ⟨ob, es', ep', hob, _, hdb, heb, hkb, hnb⟩ := db
  have hla : es.size = ka.length := size_of_entries hea
  have hlb : es'.size = kb.length := size_of_entries heb
  unfold Builtin.Dict.samePairs Builtin.Dict.showsAll
  rw [if_neg (show ¬ (a == sysModules) = true by rw [ha]; exact Bool.false_ne_true), if_neg (show ¬ (b == sysModules) = true by rw [hb]; exact Bool.false_ne_true)]
  refine wpAny_bind (wpAny_pure (wpAny_bind (wpAny_pure ?_)))
  refine wpAny_bind (wpAny_dictEntries hoa hda ?_)
  dsimp only
  refine wpAny_bind (wpAny_dictEntries hob hdb ?_)
  have hsz : es.size = es'.size := by omega
  rw [if_neg (by rw [hsz]; simp)]
  refine wpAny_bind (wpAny_dictEpoch hoa hda ?_)
  refine wpAny_bind ?_
  rw [Std.Legacy.Range.forIn_eq_forIn_range']
  simp only [Std.Legacy.Range.size, Nat.sub_zero, Nat.add_sub_cancel, Nat.div_one]
  refine wpAny_forIn_list _
    (fun rest q s' => s' = s ∧ q = (none, ()) ∧ ∃ i, rest = List.range' i (es.size - i) ∧ i ≤ es.size)
    _ ?_ ?_ _ _ ⟨rfl, rfl, 0, by simp, Nat.zero_le _⟩
  · rintro x rest q s' ⟨rfl, rfl, i, hr, hi⟩
    have hlt : i < es.size := by
      rcases Nat.lt_or_ge i es.size with h | h
      · exact h
      · rw [Nat.sub_eq_zero_of_le h] at hr; simp at hr
    obtain ⟨rfl, hrest⟩ : x = i ∧ rest = List.range' (i + 1) (es.size - (i + 1)) := by
      have e : es.size - i = (es.size - (i + 1)) + 1 := by omega
      rw [e, List.range'_succ] at hr
      injection hr with h1 h2
      exact ⟨h1, h2⟩
    refine wpAny_bind (wpAny_dictEntries hoa hda ?_)
    have hlt' : x < ka.length := by omega
    rw [entry_at hea x, List.getElem?_eq_getElem hlt']
    obtain ⟨⟨j0, p0, hj0⟩, hall⟩ := hits x ka[x] (List.getElem?_eq_getElem hlt')
    have hk := hka ka[x] (List.getElem_mem hlt')
    generalize ka[x] = y at hk hj0 hall ⊢
    show wpAny _ _ (holding [(entryOfKey knd y).key, (entryOfKey knd y).val] _ >>= _) _ _ _
    refine wpAny_bind (wpAny_holding (wpAny_bind (wpAny_dictFind_heap (k := y.1) (a := y.2.1) hu hk hob hdb heb hkb hnb (fun hn => absurd hj0 (hn _ _)) fun j p hj => ?_)))
    refine wpAny_bind (wpAny_dictEntries hob hdb ?_)
    rw [entry_at heb j, hj]
    refine wpAny_holding (hall j p hj prog w _ _ ?_)
    show wpAny _ _ (if (!true) = true then _ else _) _ _ _
    rw [if_neg (by decide)]
    refine wpAny_bind (wpAny_dictEpoch hoa hda ?_)
    rw [if_neg (by simp)]
    exact wpAny_pure ⟨rfl, rfl, x + 1, hrest, by omega⟩
  · rintro q s' ⟨rfl, rfl, i, hr, hi⟩
    exact wpAny_pure h
theorem keyed_ne {a b : Addr} {ka kb : List (K × Addr × Value)} {Q : Value → Shared → Prop} (hr : knd.room A.in1) (ha : (a == sysModules) = false) (hb : (b == sysModules) = false)
    (da : s.heap.DictOfH knd a ka) (db : s.heap.DictOfH knd b kb) (hu : A.units < cLine) (hl : ka.length = kb.length)
    (hits : ∀ (i : Nat) (x : K × Addr × Value), ka[i]? = some x → (∃ (j : Nat) (p : Addr × Value), kb[j]? = some (x.1, p)) ∧ ∀ (j : Nat) (p : Addr × Value), kb[j]? = some (x.1, p) → SeqAt.EqAt A.in1 s x.2.2 p.2 true)
    (h : Q (.bool false) s) : wpAny (model prog w) A (compareOp .NotEq (.ref a) (.ref b)) Q E s := by
  refine wpAny_richCompare_same_room (op := .NotEq) da.typeIs db.typeIs PySem.F.slot_dict_ne (wpAny_call_entry PySem.F.slot_dict_ne da.typeIs PySem.F.entry_dict_ne ?_ (PySem.F.args_dict_ne_2 _ _)) hu
  show wpAny _ _ (Builtin.Dict.dictSlotArgs "__ne__" ⟨[.ref a, .ref b], []⟩ >>= _) _ _ s
  refine wpAny_bind ?_
  unfold Builtin.Dict.dictSlotArgs
  refine wpAny_bind (wpAny_notOrdered_dict da.typeIs ?_)
  show wpAny _ _ (pure (Value.ref a, Value.ref b)) _ _ s
  refine wpAny_pure ?_
  refine wpAny_bind (wpAny_isInstance (T := "dict") db.typeIs PySem.F.sub_dict_dict ?_)
  simp only [Bool.not_true, Bool.false_eq_true, if_false]
  refine wpAny_bind (wpAny_pure (wpAny_bind (wpAny_pure ?_)))
  refine wpAny_bind (samePairsH hr ha hb da db hl hits ?_)
  refine wpAny_pure ⟨_, rfl, ?_, ?_⟩
  · exact fun x => nomatch x
  · simpa using h
end
theorem paired_at {α β : Type} {F : α → β → Prop} : ∀ {l₁ : List α} {l₂ : List β}, Paired F l₁ l₂ → ∀ {i : Nat} {b : β}, l₂[i]? = some b → ∃ a, l₁[i]? = some a ∧ F a b
  | _, _, .nil, _, _, h => nomatch h
  | _, _, .cons f r, 0, b, h => by
    obtain rfl := Option.some.inj h
    exact ⟨_, rfl, f⟩
  | _, _, .cons f r, i + 1, b, h => paired_at (i := i) r h
theorem paired_at1 {α β : Type} {F : α → β → Prop} : ∀ {l₁ : List α} {l₂ : List β}, Paired F l₁ l₂ → ∀ {i : Nat} {a : α}, l₁[i]? = some a → ∃ b, l₂[i]? = some b ∧ F a b
  | _, _, .nil, _, _, h => nomatch h
  | _, _, .cons f r, 0, b, h => by
    obtain rfl := Option.some.inj h
    exact ⟨_, rfl, f⟩
  | _, _, .cons f r, i + 1, b, h => paired_at1 (i := i) r h
theorem nd_at {α : Type} {l : List α} (h : l.Nodup) {i j : Nat} {a : α} (hi : l[i]? = some a) (hj : l[j]? = some a) : i = j := by
  obtain ⟨hi1, hi2⟩ := List.getElem?_eq_some_iff.mp hi
  obtain ⟨hj1, hj2⟩ := List.getElem?_eq_some_iff.mp hj
  have hp := List.pairwise_iff_getElem.mp h
  rcases Nat.lt_trichotomy i j with q | q | q
  · exact absurd (hi2.trans hj2.symm) (hp i j hi1 hj1 q)
  · exact q
  · exact absurd (hj2.trans hi2.symm) (hp j i hj1 hi1 q)
theorem nodup_at {α β : Type} {l : List (α × β)} (h : (l.map (·.1)).Nodup) {i j : Nat} {k : α} {x y : β} (hi : l[i]? = some (k, x)) (hj : l[j]? = some (k, y)) : i = j := by
  have hi' : (l.map (·.1))[i]? = some k := by rw [List.getElem?_map, hi]; rfl
  have hj' : (l.map (·.1))[j]? = some k := by rw [List.getElem?_map, hj]; rfl
  exact nd_at h hi' hj'
/-- != of two dicts with the same pairs, keys tuples, values texts -/
def rNeT : R2 := fun x y H Q => ∃ a b kvs, x = .ref a ∧ y = .ref b ∧ H a = some (.dT kvs) ∧ H b = some (.dT kvs) ∧ (∀ p ∈ kvs, ∃ z, p.2 = .str z) ∧ Q (.bl false) H
theorem op_neT {X : Cx} (hu : X.A.units + 1 < cLine) : OpR X (compareOp .NotEq) rNeT := by
  intro pins s σ H x y v u Q I rx ry h
  obtain ⟨a, b, kvs, rfl, rfl, ea, eb, hp, q⟩ := h
  obtain rfl : v = Value.ref a := rx
  obtain rfl : u = Value.ref b := ry
  obtain ⟨_, ya, xa, ra, da⟩ := dt_of I.hok ea
  obtain ⟨_, yb, xb, rb, db⟩ := dt_of I.hok eb
  have la := Paired.length ra
  have lb := Paired.length rb
  have nb : (xb.map (·.1)).Nodup := by
    obtain ⟨_, _, _, _, _, _, _, _, n⟩ := db
    exact n
  refine keyed_ne (tupleKind_room_in1 hu) ya yb da db (by omega) (la.symm.trans lb) (fun i x hx => ?_) ⟨.bl false, H, I, rfl, q⟩
  obtain ⟨p, hpi, e1, _, r1⟩ := paired_at ra hx
  obtain ⟨y, hy, f1, _, r2⟩ := paired_at1 rb hpi
  have ey : xb[i]? = some (x.1, y.2) := by
    rw [hy]
    congr 1
    exact Prod.ext (f1.symm.trans e1) rfl
  refine ⟨⟨i, y.2, ey⟩, fun j p' hj => ?_⟩
  obtain rfl : i = j := nodup_at nb ey hj
  obtain rfl : y.2 = p' := by
    rw [ey] at hj
    exact (Prod.mk.inj (Option.some.inj hj)).2
  obtain ⟨z, hz⟩ := hp p (List.mem_of_getElem? hpi)
  rw [hz] at r1 r2
  obtain ⟨t1, g1⟩ := (show ∃ t, x.2.2 = Value.str z t from r1)
  obtain ⟨t2, g2⟩ := (show ∃ t, y.2.2 = Value.str z t from r2)
  rw [g1, g2]
  have := PySem.W.keq_flat (A := X.A.in1) (s := s) (v := Value.str z t1) (y := Value.str z t2) (d := .str z) (e := .str z) (fun _ => Reads.str z t1) (fun _ => Reads.str z t2)
  simpa [PyData.eqv] using this

/-! ## the table of all common types -/
def prs : List (Kd × Kd) := Kd.all.flatMap fun k => Kd.all.map fun l => (k, l)
def keyOf (p : Kd × Kd) : List Key := [.inr p.1.s, .inr p.2.s]
def Md.ent (m : Md) (p : Kd × Kd) : List Key × V := (keyOf p, (m.com p.1 p.2).v)
def Md.tabN (m : Md) (n : Nat) : List (List Key × V) := (prs.take n).map m.ent
def Md.tab (m : Md) : List (List Key × V) := prs.map m.ent
theorem kd_s {k l : Kd} (h : k.s = l.s) : k = l := by
  have e := kd_eq k l
  have e2 : eqV k.v l.v = decide (k.s = l.s) := by cases k <;> cases l <;> rfl
  rw [e2, decide_eq_true h] at e
  exact of_decide_eq_true e.symm
theorem key_inj {p q : Kd × Kd} (h : keyOf p = keyOf q) : p = q := by
  obtain ⟨k, l⟩ := p
  obtain ⟨k2, l2⟩ := q
  unfold keyOf at h
  simp only [List.cons.injEq, Sum.inr.injEq, and_true] at h
  exact Prod.ext (kd_s h.1) (kd_s h.2)
theorem key_kV (k l : Kd) : (keyOf (k, l)).map kV = [k.v, l.v] := rfl
theorem mem_prs : ∀ (k l : Kd), (k, l) ∈ prs := fun k l => by cases k <;> cases l <;> decide +kernel
theorem prs_at (k l : Kd) : prs[11 * k.ix + l.ix]? = some (k, l) := by cases k <;> cases l <;> rfl
theorem prs_nodup : prs.Nodup := by decide +kernel
theorem prs_len : prs.length = 121 := by decide +kernel
theorem Md.tab_get (m : Md) (k l : Kd) : valV m.tab (keyOf (k, l)) = some (m.com k l).v := by
  have key : ∀ xs : List (Kd × Kd), (k, l) ∈ xs → valV (xs.map m.ent) (keyOf (k, l)) = some (m.com k l).v := by
    intro xs
    induction xs with
    | nil => intro h; exact nomatch h
    | cons x xs ih =>
      intro h
      by_cases e : x = (k, l)
      · subst e
        simp [valV, Md.ent]
      · have hk : keyOf x ≠ keyOf (k, l) := fun z => e (key_inj z)
        have := ih (by rcases List.mem_cons.mp h with z | z; exact absurd z.symm e; exact z)
        simpa [valV, Md.ent, hk] using this
  exact key prs (mem_prs k l)
theorem Md.tab_put (m : Md) {n : Nat} {p : Kd × Kd} (h : prs[n]? = some p) : putK (m.tabN n) (keyOf p) (m.com p.1 p.2).v = m.tabN (n + 1) := by
  obtain ⟨hn, e⟩ := List.getElem?_eq_some_iff.mp h
  have hno : ((m.tabN n).any fun kv => decide (kv.1 = keyOf p)) = false := by
    rw [List.any_eq_false]
    intro x hx
    obtain ⟨q, hq, rfl⟩ := List.mem_map.mp hx
    intro z
    have eq : q = p := key_inj (of_decide_eq_true z)
    subst eq
    obtain ⟨i, hi⟩ := List.mem_iff_getElem?.mp hq
    rw [List.getElem?_take] at hi
    split at hi
    · rename_i hlt
      have := nd_at prs_nodup hi h
      omega
    · exact nomatch hi
  unfold putK
  rw [hno, if_neg (by decide)]
  unfold Md.tabN
  rw [List.take_add_one, h, List.map_append]
  rfl
theorem Md.tab_str (m : Md) : ∀ p ∈ m.tab, ∃ z, p.2 = V.str z := by
  intro p hp
  obtain ⟨q, _, rfl⟩ := List.mem_map.mp hp
  exact ⟨_, rfl⟩
theorem Md.tab_all (m : Md) : m.tabN 121 = m.tab := by
  unfold Md.tabN Md.tab
  rw [← prs_len, List.take_length]
theorem Md.tabN_len (m : Md) (n : Nat) : (m.tabN n).length ≤ 121 := by
  unfold Md.tabN
  rw [List.length_map, List.length_take, prs_len]
  omega
end Cf

namespace Cf
open PySem PySem.Spec PyProof.Rows L2 Evl
/-! ## common types, finitely -/
/-- of two promoted types, by p: int is narrower than long; q: long is narrower than wide -/
def cm (p q : Bool) (a b : Kd) : Kd :=
  if a = b then a else match a, b with
  | .ui, .it => .ui | .it, .ui => .ui
  | .ui, .lo => if p then .lo else .ul | .lo, .ui => if p then .lo else .ul
  | .ui, .wi => if p || q then .wi else .uw | .wi, .ui => if p || q then .wi else .uw
  | .ul, .wi => if q then .wi else .uw | .wi, .ul => if q then .wi else .uw
  | .ul, .lo => .ul | .lo, .ul => .ul | .wi, .uw => .uw | .uw, .wi => .uw
  | a, b => if b.rk ≤ a.rk then a else b
theorem Md.com2_cm {m : Md} (o : m.Ok) {a b : Kd} (ha : a.big) (hb : b.big) : m.com2 a b = cm (decide (m.w2 < m.w3)) (decide (m.w3 < m.w4)) a b := by
  obtain ⟨h0, h1, h2, h3, h4, h5⟩ := o
  have e : (decide (m.w2 < m.w3) || decide (m.w3 < m.w4)) = decide (m.w2 < m.w4) := by
    by_cases x : m.w2 < m.w3 <;> by_cases y : m.w3 < m.w4 <;> simp [x, y] <;> omega
  rcases ha with rfl | rfl | rfl | rfl | rfl | rfl <;> rcases hb with rfl | rfl | rfl | rfl | rfl | rfl <;>
    simp [Md.com2, Md.mix, Md.un, Kd.rk, uKd, Md.b, Md.w, cm, e]
def bigs : List Kd := [.it, .ui, .lo, .ul, .wi, .uw]
theorem big_mem {k : Kd} (h : k.big) : k ∈ bigs := by
  rcases h with rfl | rfl | rfl | rfl | rfl | rfl <;> decide
theorem mem_big {k : Kd} (h : k ∈ bigs) : k.big := by
  unfold bigs at h
  unfold Kd.big
  simpa using h
theorem cm_facts : ([true, false].all fun p => [true, false].all fun q => bigs.all fun a => bigs.all fun b => decide (cm p q a b ∈ bigs) && bigs.all fun c => decide (cm p q (cm p q a b) c = cm p q a (cm p q b c))) = true := by decide +kernel
theorem cm_big (p q : Bool) {a b : Kd} (ha : a.big) (hb : b.big) : (cm p q a b).big := by
  have h := cm_facts
  simp only [List.all_eq_true] at h
  have h1 := h p (by cases p <;> decide) q (by cases q <;> decide) a (big_mem ha) b (big_mem hb)
  rw [Bool.and_eq_true] at h1
  exact mem_big (of_decide_eq_true h1.1)
theorem cm_assoc (p q : Bool) {a b c : Kd} (ha : a.big) (hb : b.big) (hc : c.big) : cm p q (cm p q a b) c = cm p q a (cm p q b c) := by
  have h := cm_facts
  simp only [List.all_eq_true] at h
  have h1 := h p (by cases p <;> decide) q (by cases q <;> decide) a (big_mem ha) b (big_mem hb)
  rw [Bool.and_eq_true, List.all_eq_true] at h1
  exact of_decide_eq_true (h1.2 c (big_mem hc))
theorem cm_self (p q : Bool) (a : Kd) : cm p q a a = a := by
  unfold cm
  rw [if_pos rfl]
theorem Md.prom_of_big (m : Md) {k : Kd} (h : k.big) : m.prom k = k := by
  unfold Md.prom
  rw [if_pos (big_rk h).1]
section
variable {m : Md} (o : m.Ok)
include o
theorem Md.com_cm (k l : Kd) : m.com k l = cm (decide (m.w2 < m.w3)) (decide (m.w3 < m.w4)) (m.prom k) (m.prom l) := m.com2_cm o (m.prom_big k) (m.prom_big l)
theorem Md.com_big (k l : Kd) : (m.com k l).big := by
  rw [m.com_cm o]
  exact cm_big _ _ (m.prom_big k) (m.prom_big l)
theorem Md.com_self (k : Kd) : m.com k k = m.prom k := by
  rw [m.com_cm o, cm_self]
theorem Md.com_assoc (k l t : Kd) : m.com (m.com k l) t = m.com k (m.com l t) := by
  rw [m.com_cm o (m.com k l) t, m.prom_of_big (m.com_big o k l), m.com_cm o k (m.com l t), m.prom_of_big (m.com_big o l t), m.com_cm o k l, m.com_cm o l t]
  exact cm_assoc _ _ (m.prom_big k) (m.prom_big l) (m.prom_big t)
theorem Md.com_l (k l : Kd) : m.com (m.com k l) l = m.com k l := by
  rw [m.com_assoc o, m.com_self o, m.com_cm o k (m.prom l), m.prom_of_big (m.prom_big l), ← m.com_cm o]
theorem Md.com_k (k l : Kd) : m.com (m.com k l) k = m.com k l := by
  rw [m.com_comm k l]
  exact m.com_l o l k
theorem Md.com_up {k l t : Kd} (h1 : m.com t k = t) (h2 : m.com t l = t) : m.com t (m.com k l) = t := by
  rw [← m.com_assoc o, h1, h2]
end
/-- wider by steps that stay where neighbours are equal -/
structure Md.Like (m n : Md) : Prop where
  u : n.u = m.u
  e0 : (m.w0 < m.w1 ↔ n.w0 < n.w1)
  e1 : (m.w1 < m.w2 ↔ n.w1 < n.w2)
  e2 : (m.w2 < m.w3 ↔ n.w2 < n.w3)
  e3 : (m.w3 < m.w4 ↔ n.w3 < n.w4)
theorem Md.Like.un {m n : Md} (h : m.Like n) (k : Kd) : n.un k = m.un k := by
  cases k <;> simp [Md.un, h.u]
theorem Md.Like.prom {m n : Md} (h : m.Like n) (o : m.Ok) (o2 : n.Ok) (k : Kd) : n.prom k = m.prom k := by
  obtain ⟨hu, e0, e1, e2, e3⟩ := h
  obtain ⟨h0, h1, h2, h3, h4, h5⟩ := o
  obtain ⟨g0, g1, g2, g3, g4, g5⟩ := o2
  have c0 : m.w2 ≤ m.w0 ↔ n.w2 ≤ n.w0 := by omega
  have c1 : m.w2 ≤ m.w1 ↔ n.w2 ≤ n.w1 := by omega
  cases k <;> simp [Md.prom, Md.un, Kd.rk, Md.b, Md.w, hu, c0, c1]
theorem Md.Like.com {m n : Md} (h : m.Like n) (o : m.Ok) (o2 : n.Ok) (k l : Kd) : n.com k l = m.com k l := by
  rw [n.com_cm o2, m.com_cm o, h.prom o o2, h.prom o o2]
  have e2 : decide (n.w2 < n.w3) = decide (m.w2 < m.w3) := decide_eq_decide.mpr h.e2.symm
  have e3 : decide (n.w3 < n.w4) = decide (m.w3 < m.w4) := decide_eq_decide.mpr h.e3.symm
  rw [e2, e3]
theorem Md.Like.tab {m n : Md} (h : m.Like n) (o : m.Ok) (o2 : n.Ok) : n.tab = m.tab := by
  unfold Md.tab
  refine List.map_congr_left fun p _ => ?_
  unfold Md.ent
  rw [h.com o o2]
/-! ### readings -/
def EvD (te : TE) (σ : L2.St) (H : Hp) (kvs : List (List Key × V)) : Prop := ∀ H1, Ex H H1 → ∀ Q : VK, (∀ p H2, H1 p = none → Ex H1 H2 → H2 p = some (.dT kvs) → Q (.ref p) H2) → te σ H1 Q
def spTab (K : PySem.W.Frag) : Sp := fun vs H Q _ => ∃ p m, vs = [.ref p] ∧ AtM K H p m ∧ m.Ok ∧ ∀ D H', H D = none → Ex H H' → H' D = some (.dT m.tab) → Q (.ref D) H'
section
variable {K : PySem.W.Frag} {σ : L2.St} {H : Hp} {ta tb tc tv : TE} {tk : TA} {tz : TS} {D : Ends} {a p : Addr} {kvs : List (List Key × V)} {k : List Key} {v : V} {m : Md}
theorem ev_tab (h : EvA tk σ H [.ref p]) (hm : AtM K H p m) (o : m.Ok) : EvD (tCall (spTab K) [] E0 tk) σ H m.tab := fun H1 e Q q =>
  h H1 e _ fun H2 e2 => ⟨p, m, rfl, hm.ex (e.trans e2), o, fun q2 H3 n e3 h3 => q q2 H3 (fresh_back e2 n) (e2.trans e3) h3⟩
theorem ev_dget (ha : Ev ta σ H (.ref a)) (hk : EvU tb σ H (k.map kV)) (h : H a = some (.dT kvs)) (hv : valV kvs k = some v) : Ev (tDGet ta tb) σ H v := fun H1 e Q q =>
  ha H1 e _ fun H2 e2 => hk H2 (e.trans e2) _ fun p H3 np e3 h3 => ⟨a, v, rfl, by
    have g := DGet.t (k := k) (e3 _ _ (e2 _ _ (e _ _ h))) h3
    rw [hv] at g
    exact g, q H3 (e2.trans e3)⟩
/-- table[k, l] -/
theorem ev_tget {k l : Kd} (ha : Ev ta σ H (.ref a)) (hb : Ev tb σ H k.v) (hc : Ev tc σ H l.v) (h : H a = some (.dT m.tab)) : Ev (tDGet ta (tTup (tCons tb (tCons tc tNil)))) σ H (m.com k l).v :=
  ev_dget (k := keyOf (k, l)) ha (eu_tup (ea_cons hb (ea_cons hc ea_nil)) (by show 2 ≤ 100000; decide)) h (m.tab_get k l)
theorem s_dput (hv : Ev tv σ H v) (ho : Ev ta σ H (.ref a)) (hk : EvU tb σ H (k.map kV)) (h : H a = some (.dT kvs)) (hl : kvs.length < 100000) (n : ∀ H1, Ex H H1 → D.nx σ (upd H1 a (.dT (putK kvs k v)))) : sDPut ta tb tv D σ H :=
  hv H (Ex.refl H) _ fun H1 e1 => ho H1 e1 _ fun H2 e2 => hk H2 (e1.trans e2) _ fun p H3 np e3 h3 => ⟨a, _, rfl, DPut.t (k := k) (e3 _ _ (e2 _ _ (e1 _ _ h))) h3 (sz_lt hl), n H3 ((e1.trans e2).trans e3)⟩
theorem ev_neDD {xs ys : List (List Key × V)} (ha : EvD ta σ H xs) (hb : EvD tb σ H ys) (e : xs = ys) (hs : ∀ p ∈ xs, ∃ z, p.2 = V.str z) : Ev (tOp rNeT ta tb) σ H (.bl false) := by
  subst e
  exact fun H1 e Q q => ha H1 e _ fun p H2 np e2 h2 => hb H2 (e.trans e2) _ fun p2 H3 np2 e3 h3 => ⟨p, p2, xs, rfl, rfl, e3 _ _ h2, h3, hs, q H3 (e2.trans e3)⟩
end
end Cf
namespace Cf
open PySem PySem.Spec PyProof.Rows L2 Evl
/-- widths so far, each with what was added, which ascends and stays where neighbours are equal -/
def Wd (m : Md) (d : Int) : Nat → List Int → Int → Prop
  | 0, xs, b => xs = [] ∧ b = 0
  | i + 1, xs, b => ∃ ys c, xs = ys ++ [(m.w i : Int) + b] ∧ Wd m d i ys c ∧ c ≤ b ∧ b ≤ c + d ∧ (i ≠ 0 → m.w i = m.w (i - 1) → b = c)
def spWider (K : PySem.W.Frag) : Sp := fun vs H Q _ => ∃ r p m n, vs = [.ref r, .ref p] ∧ AtM K H p m ∧ m.Ok ∧ n < 2 ^ 50 ∧ Rng H r n ∧
  ∀ p' H' m', Bu r H H' → Rng H' r (n + 5) → AtM K H' p' m' → m.Like m' → m'.Ok → Q (.ref p') H'
theorem Wd.end_ {m : Md} (o : m.Ok) {xs : List Int} {b : Int} (h : Wd m ((128 - (m.w4 : Int)) / 5) 5 xs b) : ∃ n : Md, n.ns = xs ∧ n.u = m.u ∧ m.Like n ∧ n.Ok := by
  obtain ⟨_, b4, rfl, ⟨_, b3, rfl, ⟨_, b2, rfl, ⟨_, b1, rfl, ⟨_, b0, rfl, ⟨rfl, rfl⟩, a0, c0, _⟩, a1, c1, d1⟩, a2, c2, d2⟩, a3, c3, d3⟩, a4, c4, d4⟩ := h
  have d1 := d1 (by decide)
  have d2 := d2 (by decide)
  have d3 := d3 (by decide)
  have d4 := d4 (by decide)
  simp only [Md.w] at d1 d2 d3 d4
  have d1 : m.w1 = m.w0 → _ := d1
  have d2 : m.w2 = m.w1 → _ := d2
  have d3 : m.w3 = m.w2 → _ := d3
  have d4 : m.w4 = m.w3 → _ := d4
  obtain ⟨h0, h1, h2, h3, h4, h5⟩ := o
  refine ⟨⟨(m.w0 + b1).toNat, (m.w1 + b2).toNat, (m.w2 + b3).toNat, (m.w3 + b4).toNat, (m.w4 + b).toNat, m.u⟩, ?_, rfl, ⟨rfl, ?_, ?_, ?_, ?_⟩, ⟨?_, ?_, ?_, ?_, ?_, ?_⟩⟩
  · show [(((m.w0 : Int) + b1).toNat : Int), (((m.w1 : Int) + b2).toNat : Int), (((m.w2 : Int) + b3).toNat : Int), (((m.w3 : Int) + b4).toNat : Int), (((m.w4 : Int) + b).toNat : Int)] = [(m.w0 : Int) + b1, (m.w1 : Int) + b2, (m.w2 : Int) + b3, (m.w3 : Int) + b4, (m.w4 : Int) + b]
    rw [Int.toNat_of_nonneg (by omega), Int.toNat_of_nonneg (by omega), Int.toNat_of_nonneg (by omega), Int.toNat_of_nonneg (by omega), Int.toNat_of_nonneg (by omega)]
  all_goals (dsimp only; omega)
theorem ev_ww {K : PySem.W.Frag} {σ : L2.St} {H : Hp} {p : Addr} {m : Md} {i j : Nat} {tj : TE} (hm : AtM K H p m) (hi : σ[i]? = some (some (.ref p))) (hj : j < 5) (h : Ev tj σ H (.int (j : Nat))) :
    Ev (tOp (rIxT K) (tOp (rIxT K) (tVar i) (tC (.int 0))) tj) σ H (.int (m.w j : Nat)) := by
  obtain ⟨q, a, b⟩ := hm
  exact ev_op (ev_op (ev_var hi) ev_c (rv_ixT a (atI_nat (j := 0) rfl))) h (rv_ixT b (atI_nat (Md.at_ hj)))
theorem par_raw {ta : TA} {tz : TS} {D : Ends} {i j : Nat} {σ : L2.St} {H : Hp} (h : ta σ H fun vs H1 => ∃ v w, vs = [v, w] ∧ tz D ((σ.set i (some v)).set j (some w)) H1) : tSeq (tPar i j ta) tz D σ H := h
theorem ea_atD {te : TE} {tr : TA} {σ : L2.St} {H : Hp} {xs : List (List Key × V)} {Q : List V → Hp → Prop} (h : EvD te σ H xs) (k : ∀ p H1, H p = none → Ex H H1 → H1 p = some (.dT xs) → tr σ H1 fun ys H2 => Q (.ref p :: ys) H2) : tCons te tr σ H Q := h H (Ex.refl H) _ k
end Cf

namespace Cf
open PySem PySem.Spec PyProof.Rows L2 Evl
/-! ## an exception that outlives its except suite -/
/-- at a: an exception that was caught, of the class cls, its dict d -/
def exk (a : Addr) (cls : Value) (d : Option Addr) : HO := .ext fun h => ∃ oe : Obj, h.get? a = some oe ∧ Zc cls d oe ∧ ∃ vs, oe.data = .fields vs
theorem exk_ok {P : Program} {w : World} {H : Hp} {h : Heap} {a : Addr} {cls : Value} {d : Option Addr} {oe : Obj} (e : h.get? a = some oe) (z : Zc cls d oe) (f : ∃ vs, oe.data = .fields vs) : ObjOk P w H h a (exk a cls d) :=
  ⟨⟨oe, e, z, f⟩, ⟨oe, e⟩, fun h1 h2 x k => by
    obtain ⟨o, p, q⟩ := x
    exact ⟨o, k _ p, q⟩⟩
section
variable {X : Cx} {pins : List (Addr × Obj)} {σ : L2.St} {H : Hp} {s : Shared}
/-- an untracked object that was not there at the entry is tracked from here on -/
theorem track {a : Addr} {o : HO} (I : Inv X pins σ H s) (hn : H a = none) (n0 : X.s_0.heap.get? a = none) (nL : a ≠ X.env.locals) (nC : ∀ x c, X.env.cells.lookup x = some c → c ≠ a) (np : ∀ p ∈ X.pn ++ pins, p.1 ≠ a)
    (new : ObjOk X.prog X.w (upd H a o) s.heap a o) : Inv X pins σ (upd H a o) s where
  ok := I.ok
  os := I.os
  bare := I.bare
  base := ⟨I.base.keep, I.base.slot, fun b u q n x => by
      rw [upd_ne (fun z => by rw [z, n0] at q; cases q)]
      exact I.base.free b u q n x, I.base.there, fun b xs q => by
      have := I.base.tups b xs q
      rw [upd_ne (ne_of_none this hn)]
      exact this, fun b u xs q => by
      have := I.base.frzs b u xs q
      rw [upd_ne (ne_of_none this hn)]
      exact this, fun b ps q => by
      obtain ⟨m, e⟩ := I.base.tbls b ps q
      exact ⟨m, by rw [upd_ne (ne_of_none e hn)]; exact e⟩⟩
  loc := I.loc
  cell := I.cell
  free := by rw [upd_ne (Ne.symm nL)]; exact I.free
  freeC := fun x c e => by rw [upd_ne (nC x c e)]; exact I.freeC x c e
  pin := fun p hp => by
    obtain ⟨e1, e2, e3⟩ := I.pin p hp
    exact ⟨e1, by rw [upd_ne (np p hp)]; exact e2, e3⟩
  hok := I.hok.laidN (fun _ _ q => q) hn new
  len := I.len
end
/-- 'except x as n' whose suite runs to its end: the exception stays known behind it -/
def wKeep (K : PySem.W.Frag) (c : Value) (i : Nat) (ts : Addr → Value → Option Addr → TS) (Wout : WX) (D : Ends) : WX := fun cls d σ H =>
  ∃ b, PySem.W.exmOne K cls c = some b ∧ (b = true → ∀ a, H a = none → ts a cls d { nx := fun σ' H' => D.nx (σ'.set i none) (upd H' a (exk a cls d)), rt := fun _ _ => False, bk := fun _ _ => False, ct := fun _ _ => False } (σ.set i (some (.ref a))) H) ∧
    (b = false → Wout cls d σ H)
section
variable {X : Cx} {x n : Str} {c : Value} {i : Nat} {body suite : List Stmt} {b₀ : Stmt} {np pos pos' : Pos} {tb : WX → TS} {ts : Addr → Value → Option Addr → TS} {Wout : WX}
theorem ps_try_keep (hs : X.stack = X.env :: X.outer) (hf : X.env.frame = some X.env.locals) (hex : X.ex = []) (hN : X.N.Nodup) (hi : X.N[i]? = some n) (hln : X.env.kindOf n = some .local) (hc : Names X x c) (tk : Takes X Wout)
    (hb : ∀ (W : WX) (pn : List (Addr × Obj)) (xe : Value → Shared → Prop), Takes (X.tr pn xe) W → PassesOwn (model X.prog X.w) X.A X.env xe → PSs (X.tr pn xe) body (tb W))
    (hsu : ∀ (a : Addr) (oe : Obj) (cls : Value) (d : Option Addr) (pn : List (Addr × Obj)), Zc cls d oe → (∃ vs, oe.data = .fields vs) → PSs (X.suite a ((a, oe) :: pn)) (b₀ :: suite) (ts a cls d)) :
    PS X (.Try body [.ExceptHandler (some (.Name x np)) (some n) (b₀ :: suite) pos'] [] [] pos) (fun D σ H => tb (wKeep X.K c i ts Wout D) D σ H) := by
  refine ⟨fun pins s σ H D I h => ?_⟩
  have ok := I.ok
  have hfr : X.A.frames = some (X.env :: X.outer) := by rw [ok.frames, hs]
  refine wpAny_Try_except (wpAny_mono ((hb (wKeep X.K c i ts Wout D) (X.pn ++ pins) (fun e s₁ => wpAny (model X.prog X.w) X.A (noteFrame e X.env) (fun _ s₂ => wpAny (model X.prog X.w) X.A (setFlight e none) (fun _ s₃ =>
    wpAny (model X.prog X.w) X.A (handleBy e X.env [.ExceptHandler (some (.Name x np)) (some n) (b₀ :: suite) pos']) (SP X pins D) X.xe s₃) X.xe s₂) X.xe s₁) (fun u s' xx => ?_) PassesOwn.looking).run [] s σ H D (I.toTry _) h) (fun f s1 hsp => ?_) (fun e s1 he => he))
  · obtain ⟨a, B, sI, pins', σ', H', cls, d, rfl, J', nb, up, sky, na, os, ag, b, hb1, hyes, hno⟩ := xx
    have J : Inv X pins σ' H' sI := J'.ofTry ok
    show wpAny (model X.prog X.w) X.A (noteFrame (.ref a) X.env) _ _ _
    refine Sky.land Zc.steady hfr hf (by rw [← hs]; exact sky) fun h3 fl3 up3 => ?_
    have J3 : Inv X pins σ' H' { s' with heap := h3 } := J.landed nb fl3.1 (up.trans up3) os ag
    obtain ⟨oe3, vs3, he3, hz3, hd3⟩ := fl3.there
    have nfr : a ∉ frs (X.env :: X.outer) := fun hm => by
      obtain ⟨_, o', e', hnf⟩ := fl3.2.2.1.mem hm
      rw [he3] at e'
      cases e'
      exact hnf _ hd3
    have nL : a ≠ X.env.locals := fun z => nfr (List.mem_filterMap.mpr ⟨X.env, List.mem_cons_self, by rw [hf, z]⟩)
    have nF : a ∉ X.fs := fun hm => by
      obtain ⟨e, he, q⟩ := List.mem_filterMap.mp hm
      exact nfr (List.mem_filterMap.mpr ⟨e, List.mem_cons_of_mem _ he, q⟩)
    have nI : sI.heap.get? a = none := by
      cases q : sI.heap.get? a with
      | none => rfl
      | some o =>
        have z := nb a o q (by rw [hs]; exact nfr)
        rw [fl3.2.1] at z
        cases z
    have n0 : X.s_0.heap.get? a = none := by
      cases q : X.s_0.heap.get? a with
      | none => rfl
      | some o =>
        obtain ⟨o', z⟩ := J.base.there a o q (by rw [hex]; exact fun z => nomatch z)
        rw [nI] at z
        cases z
    have S3 := J3.suite he3 hd3 na nL nF
    refine wpAny_handleBy_cons (codeAny_handlers_test ?_) (by intro q; cases q)
    have LM := PySem.W.exm_one (M := model X.prog X.w) (J3.kIn) (fun A Q E s k q => wpAny_typeOf_ref (k _ _ he3) (by rw [hz3.1]; exact q)) hb1
    have test : ∀ {Q : Value → Shared → Prop} {E : Value → Shared → Prop}, Q c { s' with heap := h3 } → wpAny (model X.prog X.w) (X.A.mark (some (.ref a))) (eval (.Name x np) X.env) Q E { s' with heap := h3 } := fun {Q E} q => by
      obtain ⟨hg, hdbg, hm | ⟨hm, hv, hnn⟩⟩ := hc
      · exact ld_glob (X := X.suite a ((a, oe3) :: (X.pn ++ pins))) S3 hg hm q hdbg
      · exact ld_blt (X := X.suite a ((a, oe3) :: (X.pn ++ pins))) S3 hg hm hv q hnn hdbg
    refine test (LM.here ?_)
    cases b with
    | true =>
      refine codeAny_handlers_suite_as (HandSPX.lands_againZ fl3 fun h4 fl4 up4 => ?_)
      have J4 : Inv X pins σ' H' { s' with heap := h4 } := J.landed nb fl4.1 ((up.trans up3).trans up4) os ag
      obtain ⟨oe4, vs4, he4, hz4, hd4⟩ := fl4.there
      have S4 := J4.suite he4 hd4 na nL nF
      refine store_ok (X := X.suite a ((a, oe4) :: (X.pn ++ pins))) (v := .ref a) S4 hN hi (.inl hln) rfl (fun s5 S5 => ?_) (.inr hln)
      refine wpAny_mono ((hsu a oe4 cls d (X.pn ++ pins) hz4 ⟨_, hd4⟩).run [] s5 _ H' _ S5 (hyes rfl a na)) (fun f s6 hsp => ?_) (fun _ _ z => False.elim z)
      cases f with
      | next =>
        obtain ⟨σ6, H6, S6, q6⟩ := hsp
        obtain ⟨p1, p2, _⟩ := S6.pin (a, oe4) (List.mem_append_left _ List.mem_cons_self)
        have T6 := track (o := exk a cls d) (S6.unsuite ok) p2 n0 nL (fun y c' e z => by
          obtain ⟨v, o, ho, _⟩ := J.cell y c' e
          rw [z, nI] at ho
          cases ho) (fun p hp z => by
          obtain ⟨e1, _⟩ := J.pin p hp
          rw [z, nI] at e1
          cases e1) (exk_ok p1 hz4 ⟨_, hd4⟩)
        exact gone_ok T6 hN hi hln fun s7 J7 => ⟨_, _, J7, q6⟩
      | brk =>
        obtain ⟨_, _, _, q6⟩ := hsp
        exact q6.elim
      | cont =>
        obtain ⟨_, _, _, q6⟩ := hsp
        exact q6.elim
      | ret u =>
        obtain ⟨_, _, _, _, _, q6⟩ := hsp
        exact q6.elim
    | false =>
      show wpAny _ X.A (handleBy (.ref a) X.env []) _ _ _
      refine wpAny_handleBy_nil ?_
      obtain ⟨k1, k2, k3, oe, vs, T, oT, ts', he, hz, hd, h1, hr⟩ := id fl3
      unfold PySem.passOn
      refine wpAny_bind (wpAny_field he hd h1 ?_)
      rw [if_neg (show ¬ ((Value.ref T == Value.none) = true) from by simp)]
      have fin : wpAny (model X.prog X.w) X.A (setFlight (.ref a) X.env.frame) (fun _ s4 => wpAny (model X.prog X.w) X.A (throw (.ref a) : Sem Flow) (SP X pins D) X.xe s4) X.xe { s' with heap := h3 } := by
        rw [hf]
        exact HandSPX.setFlight_upZ fl3 fun h4 hh4 up4 => wpAny_throw (tk _ _ ⟨a, B, sI, pins, σ', H', cls, d, rfl, J, nb, (up.trans up3).trans up4, .inr (.inr (by rw [hs]; exact hh4)), na, os, ag, hno rfl⟩)
      first
        | exact wpAny_bind (wpAny_pure (wpAny_bind fin))
        | exact wpAny_bind fin
  · cases f with
    | next =>
      obtain ⟨σ', H', J', q⟩ := hsp
      exact wpAny_execs_nil ⟨σ', H', J'.ofTry ok, q⟩
    | brk =>
      obtain ⟨σ', H', J', q⟩ := hsp
      exact ⟨σ', H', J'.ofTry ok, q⟩
    | cont =>
      obtain ⟨σ', H', J', q⟩ := hsp
      exact ⟨σ', H', J'.ofTry ok, q⟩
    | ret u =>
      obtain ⟨v, σ', H', J', r, q⟩ := hsp
      exact ⟨v, σ', H', J'.ofTry ok, r, q⟩
end
end Cf

namespace Cf
open PySem PySem.Spec PyProof.Rows L2 Evl
/-! ## own exceptions with one field -/
def vVal : Str := "value"
/-- what is said of the class x at C, its __init__ at fI -/
structure XC (K : PySem.W.Frag) (mg : Str → Option Value) (x : Str) (C fI : Addr) : Prop where
  g : mg x = some (.ref C)
  o : OexC K C
  e : ExcC K C
  no : PySem.W.findIn K (.ref C) vVal = some none
  iC : PySem.W.findIn K (.ref C) "__init__" = some (some (.ref fI))
  tI : PySem.W.typeIn K (.ref fI) = some (.type "function")
/-- __init__(self, value): self.value = value -/
def spInit (K : PySem.W.Frag) : Sp := fun vs H Q _ => ∃ a v C, vs = [.ref a, v] ∧ OexC K C ∧ PySem.W.findIn K (.ref C) vVal = some none ∧ H a = some (exo a C none) ∧
  ∀ dx, H dx = none → dx ≠ a → Q .non (upd (upd H dx (exd dx [(vVal, v)])) a (exo a C (some dx)))
/-- the class with its __init__ as a def -/
def Xi (P : Program) (w : World) (K : PySem.W.Frag) (mg : Str → Option Value) (base : Heap) (x : Str) (C : Addr) : Prop :=
  ∃ fI fd, XC K mg x C fI ∧ FnOk P w K mg base CX0 1 fI fd ["self", "value"] (spInit K) ∧ Binds K fd ["self", "value"] []
/-- a new exception of the class C with v is handed to E -/
def Out (C : Addr) (v : V) (H : Hp) (E : XK) : Prop := ∀ d H', H d = none → Ex H H' → H' d = some (.xd [(vVal, v)]) → E (.ref C) (some d) H'
theorem Out.ex {C : Addr} {v : V} {H H1 : Hp} {E : XK} (h : Out C v H E) (e : Ex H H1) : Out C v H1 E := fun d H' n e2 q => h d H' (fresh_back e n) (e.trans e2) q
def wide (ta : TA) : TA := fun σ H Q => ∃ Q0 : List V → Hp → Prop, ta σ H Q0 ∧ ∀ vs H1, Q0 vs H1 → Q vs H1
theorem pa_wide {X : Cx} {es : List Expr} {ta : TA} (h : PA X es ta) : PA X es (wide ta) := ⟨fun pos pins s σ H Q I q => by
  obtain ⟨Q0, h0, k⟩ := q
  refine wpAny_mono (h.run pos pins s σ H Q0 I h0) (fun us s1 hh => ?_) fun _ _ x => x
  obtain ⟨vs, H1, I1, r, z⟩ := hh
  exact ⟨vs, H1, I1, r, k _ _ z⟩⟩
/-- raise X(e) -/
def tRz (C : Addr) (W : WX) (ta : TA) : TS := fun _ σ H => ta σ H fun vs H1 => ∃ v, vs = [v] ∧ Out C v H1 fun c d H' => W c d σ H'
theorem tMk_of {K : PySem.W.Frag} {C : Addr} {ta : TA} {σ : L2.St} {H : Hp} {Q : XK} (o : OexC K C) (no : PySem.W.findIn K (.ref C) vVal = some none) (h : ta σ H fun vs H1 => ∃ v, vs = [v] ∧ Out C v H1 Q) : tMkO C (spInit K) [] (wide ta) σ H Q := by
  refine ⟨_, h, fun vs H1 z => ?_⟩
  obtain ⟨v, rfl, hO⟩ := z
  refine ⟨by show 1 ≤ 1000; decide, fun a na => ?_⟩
  refine ⟨a, v, C, rfl, o, no, upd_same, fun dx ndx nea => ⟨rfl, dx, [(vVal, v)], upd_same, by rw [upd_ne nea, upd_same], ?_, ?_⟩⟩
  · rw [upd_ne nea] at ndx
    exact ndx
  · rw [upd_ne nea] at ndx
    refine hO dx _ ndx (fun b o q => ?_) upd_same
    have nb : b ≠ a := fun z => by rw [z, na] at q; cases q
    have nd : b ≠ dx := fun z => by rw [z, ndx] at q; cases q
    rw [upd_ne nd, del_ne nb, upd_ne nb, upd_ne nd, upd_ne nb]
    exact q
section
variable {X : Cx} {x : Str} {C : Addr} {e : Expr} {ta : TA} {p pos pos2 : Pos}
theorem pmk_z {k : Nat} (T : Xi X.prog X.w X.K X.mg X.base x C) (hr : Room k X.A) (ha : PA X [e] ta) (hg : Gl X x) (hk : 2 ≤ k := by decide) (hdb : (x == ("__debug__" : Str)) = false := by decide)
    (he : starEach (e :: []) X.env = (false, eval e X.env) :: starEach [] X.env := by rfl) (hpl : (backTo pos (starEach [] X.env)).any (·.1) = false := by rfl) :
    PMk X (.Call (.Name x p) [e] [] pos) (fun σ H Q => ta σ H fun vs H1 => ∃ v, vs = [v] ∧ Out C v H1 Q) := by
  obtain ⟨fI, fd, T, F, hb⟩ := T
  have h := pmk_oex (CX := CX0) (p := p) T.o T.iC T.tI F (hr.mono (j := 1 + 1) hk) hb .nil pass0 hg T.g (pa_wide ha) hdb he hpl
  intro pins s σ H Q I q
  exact h pins s σ H Q I (tMk_of T.o T.no q)
theorem ps_raiseZ {k : Nat} {W : WX} (hc : X.calm = true) (T : Xi X.prog X.w X.K X.mg X.base x C) (hr : Room k X.A) (tk : Takes X W) (ha : PA X [e] ta) (hg : Gl X x) (hk : 2 ≤ k := by decide) (hdb : (x == ("__debug__" : Str)) = false := by decide)
    (he : starEach (e :: []) X.env = (false, eval e X.env) :: starEach [] X.env := by rfl) (hpl : (backTo pos (starEach [] X.env)).any (·.1) = false := by rfl) :
    PS X (.Raise (some (.Call (.Name x p) [e] [] pos)) none pos2) (tRz C W ta) := ⟨fun pins s σ H D I h => (ps_raise hc tk (pmk_z T hr ha hg hk hdb he hpl)).run pins s σ H D I h⟩
/-- X(e) as a value: a new exception that no one raised -/
theorem pe_made {t : L2.St → Hp → XK → Prop} (h : PMk X e t) : PE X e (fun σ H Q => t σ H fun cls d H' => ∀ a, H' a = none → Q (.ref a) (upd H' a (exk a cls d))) := by
  refine ⟨fun pins s σ H Q I q => ?_⟩
  refine wpAny_mono (h pins s σ H _ I q) (fun u s1 hh => ?_) fun _ _ x => x
  obtain ⟨a, oe, vs, sI, H', cls, d, rfl, J, k, hne, ha, hz, hd, h1, na, os, ag, r, z⟩ := hh
  have J2 := (J.laidN (t' := s1.toks) k hne na (exk_ok ha hz ⟨_, hd⟩))
  refine ⟨.ref a, _, ?_, rfl, z a na⟩
  exact ⟨J2.ok, os.trans J.os, ag, J2.base, J2.loc, J2.cell, J2.free, J2.freeC, J2.pin, J2.hok, J2.len⟩
/-- e.value of an exception that is known -/
def tXk (K : PySem.W.Frag) (n : Str) (te : TE) : TE := fun σ H Q => te σ H fun y H1 => ∃ (a C dd : Addr) (fs : List (Str × V)) (v : V), y = .ref a ∧ H1 a = some (exk a (.ref C) (some dd)) ∧ ExcC K C ∧ PySem.W.findIn K (.ref C) n = some none ∧ H1 dd = some (.xd fs) ∧ fs.lookup n = some v ∧ Q v H1
theorem pe_xk {te : TE} {n : Str} (he : PE X e te) (hb : attributeBase e n X.env (eval e X.env) = eval e X.env := by rfl) : PE X (.Attribute e n pos) (tXk X.K n te) := by
  refine ⟨fun pins s σ H Q I h => ?_⟩
  refine attr_of hb (thn (he.run pins s σ H _ I h) fun u s1 hh => ?_)
  obtain ⟨y, H1, I1, rx, a, C, dd, fs, v, rfl, ea, T, hno, ed, l, q⟩ := hh
  obtain rfl : u = Value.ref a := rx
  obtain ⟨⟨oe, ha, hz, vs, hd⟩, _, _⟩ := I1.hok a _ ea
  obtain ⟨mA, hns, hr⟩ := (show ObjOk X.prog X.w H1 s1.heap dd (.xd fs) from I1.hok dd _ ed)
  obtain ⟨od, ho, hl⟩ := lookIn_ns hns
  obtain ⟨u, hu, ru⟩ := RelO.some_of (v := v) (o := mA n) (by rw [← l]; exact hr n)
  have J : PySem.W.InstAt s1.heap a oe C (some od) := ⟨ha, hz.1, by unfold PySem.W.notCls; rw [hd] <;> rfl, by rw [hz.2]; exact ho⟩
  exact HandSPX.exc_get I1.kIn J T.hg T.hk T.hs (PySem.W.findObj_own T.hd hno rfl (by rw [hl, hu])) (handed_of ru) ⟨v, H1, I1.tok _, ru, q⟩
/-- isinstance(e, c), e an exception that is known -/
def rIsK (K : PySem.W.Frag) : List V → Hp → VK → Prop := fun xs H Q => ∃ (a D dd : Addr) (fs : List (Str × V)) (c : V) (cv : Value) (b : Bool), xs = [.ref a, c] ∧ H a = some (exk a (.ref D) (some dd)) ∧ H dd = some (.xd fs) ∧ ExcC K D ∧ (∀ u, RelV c u → u = cv) ∧ PySem.W.kitOne K (.ref D) cv = some b ∧ Q (.bl b) H
theorem call_isK : CallR X (.builtin "isinstance") (rIsK X.K) := by
  intro pins s σ H xs us Q I r h
  obtain ⟨a, D, dd, fs, c, cv, b, rfl, ea, ed, C, hcv, e, q⟩ := h
  cases r with
  | cons rx rr =>
    cases rr with
    | cons rt rr =>
      cases rr
      cases rx
      have ec := hcv _ rt
      subst ec
      obtain ⟨⟨oe, ha, hz, vs, hd⟩, _, _⟩ := I.hok a _ ea
      obtain ⟨mA, hns, hr⟩ := (show ObjOk X.prog X.w H s.heap dd (.xd fs) from I.hok dd _ ed)
      obtain ⟨od, ho, hl⟩ := lookIn_ns hns
      have J : PySem.W.InstAt s.heap a oe D (some od) := ⟨ha, hz.1, by unfold PySem.W.notCls; rw [hd] <;> rfl, by rw [hz.2]; exact ho⟩
      have hcl : (PySem.W.clsIn X.K D).isSome = true := by
        have := C.hd
        unfold PySem.W.hasDictIn at this
        cases q2 : PySem.W.clsIn X.K D with
        | none => rw [q2] at this; exact absurd this (by decide)
        | some _ => rfl
      exact PySem.W.kia_one (PySem.W.kitx_exc hcl C.hg C.hk C.hs C.ha C.hn C.ht C.hm) I.kIn J e (fun z => nomatch z) fun tk => ⟨.bl b, H, I.kept (t' := tk) fun _ _ z => z, rfl, q⟩
end

/-! ## defs that may raise -/
section
variable {X : Cx} {CX : CXT} {k : Nat} {f : Addr} {fd : FuncData} {ps ks : List Str} {sp : Sp} {E : L2.St → XK} {x : Str} {p pos : Pos} {e : Expr} {es : List Expr} {kws : List Keyword} {t tk : TA}
theorem ends_callS {pins : List (Addr × Obj)} {σ : L2.St} {H : Hp} {s : Shared} {Q : VK} {r : Result} {s' : Shared} (I : Inv X pins σ H s) (hx : PassesAt CX X σ (E σ)) (hq : CR CX X.stack X.prog X.w H s Q (E σ) r s') :
    match r with | .ok (.ret u) => EP X pins σ Q u s' | .ok _ => False | .error er => X.xe er s' := by
  match r, hq with
  | .error er, hq => exact hx pins H s er s' I hq
  | .ok (.ret u), hq => exact I.after hq
theorem pe_gS (F : FnG X.prog X.w X.K X.mg X.base CX k f fd ps sp) (hG : X.A.guards = some []) (hr : Room k X.A) (hg : Gl X x) (hm : X.mg x = some (.ref f))
    (hk : PySem.W.keepIn X.K (.ref f) = true) (hb : Binds X.K fd ps []) (hx : ∀ σ, PassesAt CX X σ (E σ)) (ha : PA X (e :: es) t)
    (hdb : (x == ("__debug__" : Str)) = false := by decide)
    (he : starEach (e :: es) X.env = (false, eval e X.env) :: starEach es X.env := by rfl)
    (hpl : (backTo pos (starEach es X.env)).any (·.1) = false := by rfl) : PE X (.Call (.Name x p) (e :: es) [] pos) (tCallS sp E t) := by
  constructor
  intro pins s σ H Q I h
  refine wpAny_Call_Name_kw (ld_glob I hg hm ?_ hdb)
  have step := thn (ha.run pos pins s σ H _ I h) (Q' := fun us s1 => X.K.In s1.heap ∧ wpAny (model X.prog X.w) X.A (call (.ref f) us) (EP X pins σ Q) X.xe s1) fun us s1 hh => by
    obtain ⟨vs, H1, I1, r, q⟩ := hh
    have el : us.length = ps.length := (r.length).symm.trans (F.len _ _ _ _ q)
    have b := hb s1 us I1.kIn (by rw [List.append_nil]; exact el)
    rw [List.append_nil] at b
    refine ⟨I1.kIn, wpAny_call (codeAny_mono (F.run X.A X.stack s1 H1 ⟨us, []⟩ us vs Q (E σ) hG hr I1.env0 b r q) fun r s' q => ?_)⟩
    have q2 := ends_callS I1 (hx σ) q
    revert q2
    match r with
    | .error er => exact id
    | .ok (.ret u) => exact id
    | .ok .next => exact False.elim
    | .ok .brk => exact False.elim
    | .ok .cont => exact False.elim
  exact PySem.W.callWith_K (h₀ := X.base) I.ok.mod.kin hk step he hpl
def tKwS (m : Nat) (sp : Sp) (gV : List V → List V) (E : L2.St → XK) (tk : TA) : TE := fun σ H Q => tk σ H fun zs H2 => zs.length = m ∧ sp (gV zs) H2 Q (E σ)
theorem pe_gkwS {g1 : List Value → List Value} {gV1 : List V → List V} (F : FnG X.prog X.w X.K X.mg X.base CX k f fd ps sp) (hG : X.A.guards = some []) (hr : Room k X.A) (hg : Gl X x) (hm : X.mg x = some (.ref f))
    (hk : PySem.W.keepIn X.K (.ref f) = true) (hb : KwB X.K fd ps ks g1 gV1) (hx : ∀ σ, PassesAt CX X σ (E σ)) (hkw : PK X kws tk)
    (hall : (backToKw pos (keywordEach kws X.env)).all (·.1.isSome) = true := by rfl)
    (hks : (backToKw pos (keywordEach kws X.env)).filterMap (·.1) = ks := by rfl)
    (hdb : (x == ("__debug__" : Str)) = false := by decide)
    (hpl : ((backTo pos (starEach [] X.env)).any (·.1) || (backToKw pos (keywordEach kws X.env)).any (·.1.isNone)) = false := by rfl) :
    PE X (.Call (.Name x p) [] kws pos) (tKwS ks.length sp gV1 E tk) := by
  constructor
  intro pins s σ H Q I h
  refine wpAny_Call_Name_kw (ld_glob I hg hm ?_ hdb)
  refine PySem.W.callWith_KW0 (h₀ := X.base) I.ok.mod.kin hk hall (thn (hkw.run pos pins s σ H _ I h) fun ws s2 hh => ?_) hpl
  obtain ⟨zs, H2, I2, rz, l2, q2⟩ := hh
  refine ⟨I2.kIn, ?_⟩
  rw [hks]
  have lw : ws.length = ks.length := rz.length.symm.trans l2
  refine wpAny_call (codeAny_mono (F.run X.A X.stack s2 H2 ⟨[], ks.zip ws⟩ (g1 ws) (gV1 zs) Q (E σ) hG hr I2.env0 (hb.to s2 ws I2.kIn lw) (hb.rel l2 rz) q2) fun r s' q => ?_)
  have q3 := ends_callS I2 (hx σ) q
  revert q3
  match r with
  | .error er => exact id
  | .ok (.ret u) => exact id
  | .ok .next => exact False.elim
  | .ok .brk => exact False.elim
  | .ok .cont => exact False.elim
end
def ClX (P : Program) (w : World) (K : PySem.W.Frag) (mg : Str → Option Value) (base : Heap) (k : Nat) (x : Str) (ps : List Str) (sp : Sp) : Prop :=
  ∃ (f : Addr) (fd : FuncData), FnG P w K mg base (L2.CX P w) k f fd ps sp ∧ mg x = some (.ref f) ∧ PySem.W.keepIn K (.ref f) = true ∧ Binds K fd ps []
def CkX (P : Program) (w : World) (K : PySem.W.Frag) (mg : Str → Option Value) (base : Heap) (k : Nat) (x : Str) (ks : List Str) (gV : List V → List V) (sp : Sp) : Prop :=
  ∃ (f : Addr) (fd : FuncData) (ps : List Str) (g : List Value → List Value), FnG P w K mg base (L2.CX P w) k f fd ps sp ∧ mg x = some (.ref f) ∧ PySem.W.keepIn K (.ref f) = true ∧ KwB K fd ps ks g gV
section
variable {P : Program} {w : World} {K : PySem.W.Frag} {mg : Str → Option Value} {base : Heap}
theorem ClX.mk {k : Nat} {x : Str} {st : Stmt} {ps : List Str} {sp : Sp} {f : Addr} {fd : FuncData} (D : Df K mg x st ps f fd) (F : FnG P w K mg base (L2.CX P w) k f fd ps sp) : ClX P w K mg base k x ps sp :=
  ⟨f, fd, F, D.g, D.F.kp, D.b⟩
theorem CkX.mk {k : Nat} {x : Str} {st : Stmt} {ps ks : List Str} {sp : Sp} {f : Addr} {fd : FuncData} {gV : List V → List V} (D : Df K mg x st ps f fd) (F : FnG P w K mg base (L2.CX P w) k f fd ps sp) (g : List Value → List Value)
    (h : ∀ (kV doc pm : Value) (an : Option Addr) (cdv ct : Value) (ws : List Value), ws.length = ks.length → bindArgs (PySem.W.fnOf x x (defArgs st) (defBody st) (defScope st) .none kV doc pm an cdv ct) ⟨[], ks.zip ws⟩ = pure (ps.zip (g ws)))
    (rel : ∀ {zs : List V} {ws : List Value}, zs.length = ks.length → Vals zs ws → Vals (gV zs) (g ws)) : CkX P w K mg base k x ks gV sp :=
  ⟨f, fd, ps, g, F, D.g, D.F.kp, fun_kw D.F h rel⟩
/-- a body that may let an exception out; nothing is handled -/
theorem df_okX {x : Str} {st : Stmt} {f : Addr} {fd : FuncData} {N ps : List Str} {k : Nat} {sp : Sp} (D : Df K mg x st ps f fd) (S : FnScope N ps (defScope st)) (len : ∀ vs H Q E, sp vs H Q E → vs.length = ps.length)
    (hbody : ∀ (cdv : Value) (A : Around) (outer : List Env) (s : Shared) (H : Hp) (vs : List V) (Q : VK) (E : XK), A.guards = some [] → Room k (A.deeper (envOfC x (defScope st) s.heap.objs.size f cdv)) →
      Takes (cxOf (L2.CX P w) P w K mg base N x (defScope st) f cdv A outer s H E) (fun cls d _ H' => E cls d H') → sp vs H Q E →
      ∃ t, PSs (cxOf (L2.CX P w) P w K mg base N x (defScope st) f cdv A outer s H E) (defBody st) t ∧ t { nx := fun _ H' => Q .non H', rt := Q } (start N vs) H) :
    FnG P w K mg base (L2.CX P w) (k + 1) f fd ps sp :=
  fun_okG D.F S len fun cdv A outer s H vs Q E hG hr hs => hbody cdv A outer s H vs Q E hG hr (takes_of rfl rfl rfl rfl) hs
end
section
variable {X : Cx} {j k : Nat} {ps ks : List Str} {sp : Sp} {x : Str} {p pos : Pos} {e : Expr} {es : List Expr} {kws : List Keyword} {t tk : TA} {W : WX}
theorem pe_clX (C : ClX X.prog X.w X.K X.mg X.base j x ps sp) (hG : X.A.guards = some []) (hr : Room k X.A) (tk : Takes X W) (hg : Gl X x) (ha : PA X (e :: es) t) (hjk : j ≤ k := by decide)
    (hdb : (x == ("__debug__" : Str)) = false := by decide)
    (he : starEach (e :: es) X.env = (false, eval e X.env) :: starEach es X.env := by rfl)
    (hpl : (backTo pos (starEach es X.env)).any (·.1) = false := by rfl) : PE X (.Call (.Name x p) (e :: es) [] pos) (tCallS sp (WE W) t) := by
  obtain ⟨f, fd, F, g, kp, b⟩ := C
  exact pe_gS F hG (hr.mono hjk) hg g kp b (fun σ => passAt tk σ) ha hdb he hpl
theorem pe_ckX {gV : List V → List V} (C : CkX X.prog X.w X.K X.mg X.base j x ks gV sp) (hG : X.A.guards = some []) (hr : Room k X.A) (tk0 : Takes X W) (hg : Gl X x) (hkw : PK X kws tk) (hjk : j ≤ k := by decide)
    (hall : (backToKw pos (keywordEach kws X.env)).all (·.1.isSome) = true := by rfl)
    (hks : (backToKw pos (keywordEach kws X.env)).filterMap (·.1) = ks := by rfl)
    (hdb : (x == ("__debug__" : Str)) = false := by decide)
    (hpl : ((backTo pos (starEach [] X.env)).any (·.1) || (backToKw pos (keywordEach kws X.env)).any (·.1.isNone)) = false := by rfl) :
    PE X (.Call (.Name x p) [] kws pos) (tKwS ks.length sp gV (WE W) tk) := by
  obtain ⟨f, fd, ps, g, F, gm, kp, b⟩ := C
  exact pe_gkwS F hG (hr.mono hjk) hg gm kp b (fun σ => passAt tk0 σ) hkw hall hks hdb hpl
end
/-- a def that gives something, or raises as o says -/
def PX (pre : List V → Hp → Option (Addr × V) → Prop) : Sp := fun vs H Q E => ∃ o, pre vs H o ∧ (o = none → ∀ v H', Ex H H' → Q v H') ∧ ∀ C v, o = some (C, v) → Out C v H E
theorem px_len {pre : List V → Hp → Option (Addr × V) → Prop} {n : Nat} (h : ∀ vs H o, pre vs H o → vs.length = n) : ∀ vs H Q E, PX pre vs H Q E → vs.length = n := fun vs H Q E q => by
  obtain ⟨o, a, _⟩ := q
  exact h _ _ _ a
section
variable {pre : List V → Hp → Option (Addr × V) → Prop} {o : Option (Addr × V)} {σ : L2.St} {H : Hp} {vs : List V} {ta : TA} {tz : TS} {D : Ends} {W : WX}
theorem q_dropX (h : EvA ta σ H vs) (hp : ∀ H1, Ex H H1 → pre vs H1 o) (h0 : o = none → ∀ H1, Ex H H1 → tz D σ H1) (h1 : ∀ C v, o = some (C, v) → ∀ H1, Ex H H1 → Out C v H1 (fun c d H' => W c d σ H')) : tSeq (tDrop (tCallS (PX pre) (WE W) ta)) tz D σ H :=
  h H (Ex.refl H) _ fun H1 e1 => ⟨o, hp H1 e1, fun z v H' e' => h0 z H' (e1.trans e'), fun C v z => h1 C v z H1 e1⟩
theorem s_dropX (h : EvA ta σ H vs) (hp : ∀ H1, Ex H H1 → pre vs H1 o) (h0 : o = none → ∀ H1, Ex H H1 → D.nx σ H1) (h1 : ∀ C v, o = some (C, v) → ∀ H1, Ex H H1 → Out C v H1 (fun c d H' => W c d σ H')) : tDrop (tCallS (PX pre) (WE W) ta) D σ H :=
  h H (Ex.refl H) _ fun H1 e1 => ⟨o, hp H1 e1, fun z v H' e' => h0 z H' (e1.trans e'), fun C v z => h1 C v z H1 e1⟩
theorem s_dropKX {gV : List V → List V} {m : Nat} (h : EvA ta σ H vs) (hl : vs.length = m) (hp : ∀ H1, Ex H H1 → pre (gV vs) H1 o) (h0 : o = none → ∀ H1, Ex H H1 → D.nx σ H1) (h1 : ∀ C v, o = some (C, v) → ∀ H1, Ex H H1 → Out C v H1 (fun c d H' => W c d σ H')) : tDrop (tKwS m (PX pre) gV (WE W) ta) D σ H :=
  h H (Ex.refl H) _ fun H1 e1 => ⟨hl, o, hp H1 e1, fun z v H' e' => h0 z H' (e1.trans e'), fun C v z => h1 C v z H1 e1⟩
theorem s_rz {C : Addr} {x : V} {te : TE} (h : Ev te σ H x) (k : ∀ H1, Ex H H1 → Out C x H1 (fun c d H' => W c d σ H')) : tRz C W (tCons te tNil) D σ H := h H (Ex.refl H) _ fun H1 e1 => ⟨x, rfl, k H1 e1⟩
end
/-! ## models that may be wrong -/
def AtX (K : PySem.W.Frag) (H : Hp) (p : Addr) (ns : List Int) (pl : Str) : Prop := ∃ q, SqT K H p [.ref q, .str pl] ∧ SqT K H q (ns.map V.int)
theorem AtX.ex {K : PySem.W.Frag} {H H' : Hp} {p : Addr} {ns : List Int} {pl : Str} (e : Ex H H') (h : AtX K H p ns pl) : AtX K H' p ns pl := by
  obtain ⟨q, a, b⟩ := h
  exact ⟨q, ex_t e a, ex_t e b⟩
def firstBad (C : Addr) : Int → Nat → List Int → Option (Addr × V)
  | _, _, [] => none
  | l, i, n :: r => if n < l ∨ 128 < n then some (C, .int (i : Nat)) else firstBad C n (i + 1) r
def chkW (C : Addr) (ns : List Int) : Option (Addr × V) := if ns.length = 5 then firstBad C 2 0 ns else some (C, .non)
def plOk (pl : Str) : Bool := inV (.str pl) vPLAIN
def chkM (C : Addr) (ns : List Int) (pl : Str) : Option (Addr × V) := match chkW C ns with
  | none => if plOk pl then none else some (C, .non)
  | some z => some z
def kdOk (x : Str) : Bool := inV (.str x) vKINDS
def chkK (C : Addr) (x : Str) : Option (Addr × V) := if kdOk x then none else some (C, .str x)
def preCW (K : PySem.W.Frag) (C : Addr) : List V → Hp → Option (Addr × V) → Prop := fun vs H o => ∃ p ns, vs = [.ref p] ∧ SqT K H p (ns.map V.int) ∧ o = chkW C ns
def preCM (K : PySem.W.Frag) (C : Addr) : List V → Hp → Option (Addr × V) → Prop := fun vs H o => ∃ p ns pl, vs = [.ref p] ∧ AtX K H p ns pl ∧ o = chkM C ns pl
def preCK (C : Addr) : List V → Hp → Option (Addr × V) → Prop := fun vs H o => ∃ x, vs = [.str x] ∧ o = chkK C x
def andThen (a b : Option (Addr × V)) : Option (Addr × V) := match a with | none => b | some z => some z
def preMX (K : PySem.W.Frag) (C D : Addr) : List V → Hp → Option (Addr × V) → Prop := fun vs H o => ∃ p ns pl x, vs = [.ref p, .str x] ∧ AtX K H p ns pl ∧ o = andThen (chkM C ns pl) (chkK D x)
def preMXI (K : PySem.W.Frag) (C D : Addr) : List V → Hp → Option (Addr × V) → Prop := fun vs H o => ∃ p ns pl x i, vs = [.ref p, .str x, .int i] ∧ AtX K H p ns pl ∧ o = andThen (chkM C ns pl) (chkK D x)
def preMXX (K : PySem.W.Frag) (C D : Addr) : List V → Hp → Option (Addr × V) → Prop := fun vs H o => ∃ p ns pl x y, vs = [.ref p, .str x, .str y] ∧ AtX K H p ns pl ∧ o = andThen (chkM C ns pl) (andThen (chkK D x) (chkK D y))
theorem firstBad_drop {C : Addr} : ∀ {ns : List Int} {l z : Int} {j i : Nat}, ns[i]? = some z → firstBad C l j (ns.drop i) = if z < l ∨ 128 < z then some (C, .int (j : Nat)) else firstBad C z (j + 1) (ns.drop (i + 1)) := by
  intro ns l z j i h
  obtain ⟨hi, e⟩ := List.getElem?_eq_some_iff.mp h
  rw [List.drop_eq_getElem_cons hi, e]
  rfl
theorem kdOk_ex {x : Str} (h : kdOk x = true) : ∃ k : Kd, k.s = x := by
  unfold kdOk inV at h
  rw [List.any_eq_true] at h
  obtain ⟨y, hy, e⟩ := h
  obtain ⟨m, hm⟩ := List.mem_iff_getElem?.mp hy
  obtain ⟨k, _, rfl⟩ := kd_at hm
  refine ⟨k, ?_⟩
  have : decide (k.s = x) = true := by
    first
      | exact e
      | simpa [eqV] using e
  exact of_decide_eq_true this
theorem chkM_ok {C : Addr} {ns : List Int} {pl : Str} (h : chkM C ns pl = none) : ∃ m : Md, m.Ok ∧ ns = m.ns ∧ pl = plS m.u := by
  unfold chkM at h
  cases hw : chkW C ns with
  | some z => rw [hw] at h; exact nomatch h
  | none =>
    rw [hw] at h
    have h : (if plOk pl then none else some (C, V.non)) = none := h
    have hp : plOk pl = true := by
      cases q : plOk pl with
      | true => rfl
      | false => rw [q] at h; exact nomatch h
    unfold chkW at hw
    split at hw
    · rename_i hl
      match ns, hl with
      | [a, b, c, d, e], _ =>
        have key : ∀ (l : Int) (i : Nat) (z : Int) (r : List Int), firstBad C l i (z :: r) = none → l ≤ z ∧ z ≤ 128 ∧ firstBad C z (i + 1) r = none := by
          intro l i z r q
          unfold firstBad at q
          split at q
          · exact nomatch q
          · exact ⟨by omega, by omega, q⟩
        obtain ⟨a1, a2, hw⟩ := key _ _ _ _ hw
        obtain ⟨b1, b2, hw⟩ := key _ _ _ _ hw
        obtain ⟨c1, c2, hw⟩ := key _ _ _ _ hw
        obtain ⟨d1, d2, hw⟩ := key _ _ _ _ hw
        obtain ⟨e1, e2, hw⟩ := key _ _ _ _ hw
        obtain ⟨u, hu⟩ : ∃ u : Bool, pl = plS u := by
          unfold plOk inV vPLAIN at hp
          simp only [List.any_cons, List.any_nil, Bool.or_false, Bool.or_eq_true] at hp
          rcases hp with hp | hp
          · exact ⟨false, ((eq_of_beq (show ("s" == pl) = true from hp))).symm⟩
          · exact ⟨true, ((eq_of_beq (show ("u" == pl) = true from hp))).symm⟩
        refine ⟨⟨a.toNat, b.toNat, c.toNat, d.toNat, e.toNat, u⟩, ⟨?_, ?_, ?_, ?_, ?_, ?_⟩, ?_, hu⟩
        · simp only []; omega
        · simp only []; omega
        · simp only []; omega
        · simp only []; omega
        · simp only []; omega
        · simp only []; omega
        · show [a, b, c, d, e] = [((a.toNat : Nat) : Int), ((b.toNat : Nat) : Int), ((c.toNat : Nat) : Int), ((d.toNat : Nat) : Int), ((e.toNat : Nat) : Int)]
          rw [Int.toNat_of_nonneg (by omega), Int.toNat_of_nonneg (by omega), Int.toNat_of_nonneg (by omega), Int.toNat_of_nonneg (by omega), Int.toNat_of_nonneg (by omega)]
    · exact nomatch hw
theorem AtX.m {K : PySem.W.Frag} {H : Hp} {p : Addr} {ns : List Int} {pl : Str} {C : Addr} (h : AtX K H p ns pl) (o : chkM C ns pl = none) : ∃ m : Md, m.Ok ∧ AtM K H p m := by
  obtain ⟨m, mo, rfl, rfl⟩ := chkM_ok o
  exact ⟨m, mo, h⟩
theorem chkK_ok {C : Addr} {x : Str} (o : chkK C x = none) : ∃ k : Kd, x = k.s := by
  unfold chkK at o
  split at o
  · rename_i h
    obtain ⟨k, e⟩ := kdOk_ex h
    exact ⟨k, e.symm⟩
  · exact nomatch o
theorem if_true_of_ {c : Bool} {A B : Prop} (hc : c = true) (h : A) : if c = true then A else B := by
  rw [if_pos hc]
  exact h
theorem if_false_of_ {c : Bool} {A B : Prop} (hc : c = false) (h : B) : if c = true then A else B := by
  rw [hc, if_neg Bool.false_ne_true]
  exact h
theorem ev_non_ {σ : L2.St} {H : Hp} : Ev (tC .non) σ H .non := ev_c
end Cf

namespace Cf
open PySem PySem.Spec PyProof.Rows L2 Evl
/-! ## which of the nine classes an exception is of -/
/-- the class at C is of these -/
structure IsF (K : PySem.W.Frag) (C c0 c1 c2 c3 c4 c5 c6 c7 c8 : Addr) (b0 b1 b2 b3 b4 b5 b6 b7 b8 : Bool) : Prop where
  e : ExcC K C
  no : PySem.W.findIn K (.ref C) vVal = some none
  k0 : PySem.W.kitOne K (.ref C) (.ref c0) = some b0
  k1 : PySem.W.kitOne K (.ref C) (.ref c1) = some b1
  k2 : PySem.W.kitOne K (.ref C) (.ref c2) = some b2
  k3 : PySem.W.kitOne K (.ref C) (.ref c3) = some b3
  k4 : PySem.W.kitOne K (.ref C) (.ref c4) = some b4
  k5 : PySem.W.kitOne K (.ref C) (.ref c5) = some b5
  k6 : PySem.W.kitOne K (.ref C) (.ref c6) = some b6
  k7 : PySem.W.kitOne K (.ref C) (.ref c7) = some b7
  k8 : PySem.W.kitOne K (.ref C) (.ref c8) = some b8
  kv : PySem.W.kitOne K (.ref C) (.type "ValueError") = some true
structure Er9 (K : PySem.W.Frag) (mg : Str → Option Value) (c0 c1 c2 c3 c4 c5 c6 c7 c8 : Addr) : Prop where
  g0 : mg "InvalidModel" = some (.ref c0)
  g1 : mg "InvalidType" = some (.ref c1)
  g2 : mg "InvalidVariables" = some (.ref c2)
  g3 : mg "InvalidExpression" = some (.ref c3)
  g4 : mg "InvalidValues" = some (.ref c4)
  g5 : mg "InvalidNumber" = some (.ref c5)
  g6 : mg "NotAdmitted" = some (.ref c6)
  g7 : mg "NothingToUndo" = some (.ref c7)
  g8 : mg "Unreadable" = some (.ref c8)
  m : IsF K c0 c0 c1 c2 c3 c4 c5 c6 c7 c8 true false false false false false false false false
  k : IsF K c1 c0 c1 c2 c3 c4 c5 c6 c7 c8 false true false false false false false false false
/-- an exception of the class C with v stands at a -/
def ExAt (H : Hp) (a C : Addr) (v : V) : Prop := ∃ dd, H a = some (exk a (.ref C) (some dd)) ∧ H dd = some (.xd [(vVal, v)])
theorem ExAt.ex {H H' : Hp} {a C : Addr} {v : V} (h : ExAt H a C v) (e : Ex H H') : ExAt H' a C v := by
  obtain ⟨dd, p, q⟩ := h
  exact ⟨dd, e _ _ p, e _ _ q⟩
theorem ExAt.bu {H H' : Hp} {a C l : Addr} {v : V} {xs : List V} (h : ExAt H a C v) (hl : H l = some (.lst xs)) (e : Bu l H H') : ExAt H' a C v := by
  obtain ⟨dd, p, q⟩ := h
  refine ⟨dd, e _ _ (ne_of p hl ?_) p, e _ _ (ne_of q hl ?_) q⟩
  · intro z
    have z' : HO.ext _ = HO.lst _ := z
    cases z'
  · intro z
    cases z
section
variable {K : PySem.W.Frag} {σ : L2.St} {H : Hp} {ta : TE} {a C c : Addr} {v : V} {b : Bool}
theorem ev_isK (ha : Ev ta σ H (.ref a)) (h : ExAt H a C v) (e : ExcC K C) (k : PySem.W.kitOne K (.ref C) (.ref c) = some b) : Ev (tCB (rIsK K) (tCons ta (tCons (tC (.ref c)) tNil))) σ H (.bl b) := ev_cb (ea_cons ha (ea_cons ev_c ea_nil)) fun H1 e1 Q1 q1 => by
  obtain ⟨dd, p, q⟩ := h.ex e1
  exact ⟨a, C, dd, _, .ref c, .ref c, b, rfl, p, q, e, fun u r => r, k, q1 H1 (Ex.refl H1)⟩
theorem ev_isKT {n : String} (ha : Ev ta σ H (.ref a)) (h : ExAt H a C v) (e : ExcC K C) (k : PySem.W.kitOne K (.ref C) (.type n) = some b) : Ev (tCB (rIsK K) (tCons ta (tCons (tC (.ty n)) tNil))) σ H (.bl b) := ev_cb (ea_cons ha (ea_cons ev_c ea_nil)) fun H1 e1 Q1 q1 => by
  obtain ⟨dd, p, q⟩ := h.ex e1
  exact ⟨a, C, dd, _, .ty n, .type n, b, rfl, p, q, e, fun u r => r, k, q1 H1 (Ex.refl H1)⟩
theorem ev_xk (ha : Ev ta σ H (.ref a)) (h : ExAt H a C v) (e : ExcC K C) (no : PySem.W.findIn K (.ref C) vVal = some none) : Ev (tXk K vVal ta) σ H v := fun H1 e1 Q q => ha H1 e1 _ fun H2 e2 => by
  obtain ⟨dd, p, z⟩ := h.ex (e1.trans e2)
  exact ⟨a, C, dd, _, v, rfl, p, e, no, z, by simp [List.lookup], q H2 e2⟩
end
/-- the list at l: pairs (name, bool), each a list -/
def Kin (H : Hp) (l : Addr) (done : List (Str × Bool)) : Prop := ∃ ps : List Addr, H l = some (.lst (ps.map V.ref)) ∧ ps.length = done.length ∧ ∀ (j : Nat) (nm : Str) (b : Bool), done[j]? = some (nm, b) → ∃ p, ps[j]? = some p ∧ p ≠ l ∧ H p = some (.lst [.str nm, .bl b])
theorem Kin.ex {H H' : Hp} {l : Addr} {done : List (Str × Bool)} (h : Kin H l done) (e : Ex H H') : Kin H' l done := by
  obtain ⟨ps, a, b, c⟩ := h
  refine ⟨ps, e _ _ a, b, fun j nm bb q => ?_⟩
  obtain ⟨p, p1, p2, p3⟩ := c j nm bb q
  exact ⟨p, p1, p2, e _ _ p3⟩
theorem q_kin {K : PySem.W.Frag} {σ : L2.St} {H : Hp} {l : Addr} {done : List (Str × Bool)} {nm : Str} {b : Bool} {i : Nat} {te : TE} {tz : TS} {D : Ends} (h : Kin H l done) (hi : σ[i]? = some (some (.ref l))) (hd : done.length < 100000) (he : EvL te σ H [.str nm, .bl b])
    (k : ∀ H', Bu l H H' → Kin H' l (done ++ [(nm, b)]) → tz D σ H') : tSeq (tDrop (tBM K "list" rAppend (tVar i) (tCons te tNil))) tz D σ H := by
  obtain ⟨ps, h1, h2, h3⟩ := h
  refine q_appL h1 (ev_var hi) he (by rw [List.length_map]; omega) fun p H1 np e1 hp => ?_
  have hpl : p ≠ l := fun z => by rw [z, h1] at np; cases np
  have bu : Bu l H (upd H1 l (.lst (ps.map V.ref ++ [.ref p]))) := fun c o nc q => by rw [upd_ne nc]; exact e1 _ _ q
  refine k _ bu ⟨ps ++ [p], by rw [upd_same, List.map_append]; rfl, by rw [List.length_append, List.length_append, h2]; rfl, fun j nm2 b2 q => ?_⟩
  by_cases hj : j < done.length
  · rw [List.getElem?_append_left hj] at q
    obtain ⟨p2, q1, q2, q3⟩ := h3 j nm2 b2 q
    exact ⟨p2, by rw [List.getElem?_append_left (by omega)]; exact q1, q2, bu _ _ q2 q3⟩
  · rw [List.getElem?_append_right (by omega)] at q
    have hj2 : j - done.length = 0 := by
      have := (List.getElem?_eq_some_iff.mp q).1
      simp at this
      omega
    rw [hj2] at q
    have q : (nm, b) = (nm2, b2) := Option.some.inj q
    cases q
    exact ⟨p, by rw [List.getElem?_append_right (by omega), h2, hj2]; rfl, hpl, by rw [upd_ne hpl]; exact hp⟩
/-- _law_kind_of -/
def spKO (K : PySem.W.Frag) (cM cK : Addr) : Sp := fun vs H Q _ => ∃ a C v nm, vs = [.ref a] ∧ ((C = cM ∧ nm = ("model" : Str)) ∨ (C = cK ∧ nm = ("kind" : Str))) ∧ ExAt H a C v ∧ ∀ p H', H p = none → Ex H H' → H' p = some (.lst [.str nm, v]) → Q (.ref p) H'
end Cf
namespace Cf
open PySem PySem.Spec PyProof.Rows L2 Evl
/-! ## what is told -/
def tm (ns : List Int) (pl : Str) : Option V := (chkM 0 ns pl).map (·.2)
def tkd (x : Str) : Option V := if kdOk x then none else some (.str x)
theorem firstBad_C (C : Addr) : ∀ (ns : List Int) (l : Int) (i : Nat), firstBad C l i ns = (firstBad 0 l i ns).map fun z => (C, z.2)
  | [], _, _ => rfl
  | n :: r, l, i => by
    unfold firstBad
    split
    · rfl
    · exact firstBad_C C r n (i + 1)
theorem chkW_C (C : Addr) (ns : List Int) : chkW C ns = (chkW 0 ns).map fun z => (C, z.2) := by
  unfold chkW
  by_cases h : ns.length = 5
  · rw [if_pos h, if_pos h, firstBad_C]
  · rw [if_neg h, if_neg h]
    rfl
theorem chkM_tm (C : Addr) (ns : List Int) (pl : Str) : chkM C ns pl = (tm ns pl).map fun v => (C, v) := by
  unfold tm chkM
  rw [chkW_C]
  cases chkW 0 ns with
  | none => by_cases p : plOk pl <;> simp [p]
  | some z => rfl
theorem chkK_tk (C : Addr) (x : Str) : chkK C x = (tkd x).map fun v => (C, v) := by
  unfold chkK tkd
  split <;> rfl
/-- what the law is told of a call: none, or the name and the value of the error -/
def told1 (ns : List Int) (pl x : Str) : Option (Bool × V) := match tm ns pl with
  | some v => some (true, v)
  | none => (tkd x).map fun v => (false, v)
def told2 (ns : List Int) (pl x y : Str) : Option (Bool × V) := match told1 ns pl x with
  | some z => some z
  | none => (tkd y).map fun v => (false, v)
def nmOf (b : Bool) : Str := if b then "model" else "kind"
def cOf (cM cK : Addr) (b : Bool) : Addr := if b then cM else cK
theorem told1_eq (cM cK : Addr) (ns : List Int) (pl x : Str) : andThen (chkM cM ns pl) (chkK cK x) = (told1 ns pl x).map fun z => (cOf cM cK z.1, z.2) := by
  rw [chkM_tm, chkK_tk]
  unfold told1
  cases tm ns pl with
  | some v => rfl
  | none => cases tkd x <;> rfl
theorem told2_eq (cM cK : Addr) (ns : List Int) (pl x y : Str) : andThen (chkM cM ns pl) (andThen (chkK cK x) (chkK cK y)) = (told2 ns pl x y).map fun z => (cOf cM cK z.1, z.2) := by
  rw [chkM_tm, chkK_tk, chkK_tk]
  unfold told2 told1
  cases tm ns pl with
  | some v => rfl
  | none => cases tkd x <;> cases tkd y <;> rfl
def toldP (pick : Int) (ns : List Int) (pl x y : Str) : Option (Bool × V) := if pick = 5 then told2 ns pl x y else told1 ns pl x
def spTold (K : PySem.W.Frag) : Sp := fun vs H Q _ => ∃ pick p ns pl x y, vs = [.int pick, .ref p, .str x, .str y] ∧ 0 ≤ pick ∧ pick ≤ 5 ∧ AtX K H p ns pl ∧
  (toldP pick ns pl x y = none → ∀ H', Ex H H' → Q .non H') ∧ ∀ b v, toldP pick ns pl x y = some (b, v) → ∀ q H', H q = none → Ex H H' → H' q = some (.lst [.str (nmOf b), v]) → Q (.ref q) H'
end Cf

namespace Cf
open PySem PySem.Spec PyProof.Rows L2 Evl
section
variable {K : PySem.W.Frag} {σ : L2.St} {H : Hp} {ta tb te : TE} {t : TT} {tr : TA}
/-- a comprehension over enumerate(list) -/
theorem el_lcEn {a : Addr} {xs : List V} {j1 j2 : Nat} {vs : List Nat} (f : Nat → Bool) (v : Nat → V) (h : EvA tr σ H [.ref a]) (hx : SqL K H a xs) (hz : xs.length ≤ 40000) (hw : ∀ x y, wipe (((wipe σ vs).set j1 (some x)).set j2 (some y)) vs = wipe σ vs)
    (ht : ∀ (i : Nat) (x : V) H1, Ex H H1 → xs[i]? = some x → EvT t (((wipe σ vs).set j1 (some (.int (i : Nat)))).set j2 (some x)) H1 (f i)) (he : ∀ (i : Nat) (x : V) H1, Ex H H1 → xs[i]? = some x → f i = true → Ev te (((wipe σ vs).set j1 (some (.int (i : Nat)))).set j2 (some x)) H1 (v i)) :
    EvL (tLc (iEnum K tr) (gTup K 2 (gCons (gName j1) (gCons (gName j2) gNil))) t te vs) σ H (given xs.length f v) := fun H0 e Q q => h H0 e _ fun H1 e1 => ⟨a, xs, rfl, ex_l (e.trans e1) hx, fun Dl hD =>
  lc_it walk_enum (Cw H1 f v Dl) ⟨hD, Ex.new hD, upd_same⟩ (fun i H' _ p => ex_l ((e.trans e1).trans p.2.1) hx) (fun i x H' H'' hi p y => by
    obtain ⟨T, a0, b0, rfl, hT, rfl, ea, eb⟩ := y
    cases (Option.some.inj ea)
    obtain ⟨p1, p2, p3⟩ := p
    exact ⟨T, _, rfl, st_of upd_same, rfl, _, _, rfl, _, _, rfl, rfl, hw _ _, cw_turn ⟨p1, p2.trans (Ex.new hT), by rw [upd_ne (ne_of_none p3 hT)]; exact p3⟩ (by omega) (ht i b0 H1 (e.trans e1) eb) (fun hf => he i b0 H1 (e.trans e1) eb hf)⟩)
    (fun H' p => q Dl H' (fresh_back e1 p.1) (e1.trans p.2.1) p.2.2)⟩
theorem el_cat {xs ys : List V} (ha : EvL ta σ H xs) (hb : EvL tb σ H ys) (hl : xs.length + ys.length ≤ 100000) : EvL (tOp rCat ta tb) σ H (xs ++ ys) := fun H1 e Q q =>
  ha H1 e _ fun p H2 np e2 h2 => hb H2 (e.trans e2) _ fun p2 H3 np2 e3 h3 => ⟨p, p2, xs, ys, rfl, rfl, e3 _ _ h2, h3, sz_of hl, fun l nl => q l _ (fresh_back (e2.trans e3) nl) ((e2.trans e3).trans (Ex.new nl)) upd_same⟩
theorem el_catV {a : Addr} {xs ys : List V} (ha : Ev ta σ H (.ref a)) (h : H a = some (.lst xs)) (hb : EvL tb σ H ys) (hl : xs.length + ys.length ≤ 100000) : EvL (tOp rCat ta tb) σ H (xs ++ ys) := fun H1 e Q q =>
  ha H1 e _ fun H2 e2 => hb H2 (e.trans e2) _ fun p2 H3 np2 e3 h3 => ⟨a, p2, xs, ys, rfl, rfl, e3 _ _ (e2 _ _ (e _ _ h)), h3, sz_of hl, fun l nl => q l _ (fresh_back (e2.trans e3) nl) ((e2.trans e3).trans (Ex.new nl)) upd_same⟩
theorem el_rep {x : V} {k : Nat} (ha : EvL ta σ H [x]) (hb : Ev tb σ H (.int (k : Nat))) (hk : k ≤ 1000) : EvL (tOp rRep ta tb) σ H (List.replicate k x) := fun H1 e Q q =>
  ha H1 e _ fun p H2 np e2 h2 => hb H2 (e.trans e2) _ fun H3 e3 => ⟨p, (k : Int), [x], rfl, rfl, e3 _ _ h2, by omega, by omega, by rw [Int.toNat_natCast]; simp only [List.length_cons, List.length_nil]; exact sz_of (by omega), fun l nl => by
    have er : (List.replicate ((k : Int).toNat) [x]).flatten = List.replicate k x := by
      rw [Int.toNat_natCast]
      clear hk hb q
      induction k with
      | zero => rfl
      | succ k ih => rw [List.replicate_succ, List.flatten_cons, ih, List.replicate_succ]; rfl
    rw [er]
    exact q l _ (fresh_back (e2.trans e3) nl) ((e2.trans e3).trans (Ex.new nl)) upd_same⟩
/-- one of several written numbers, drawn -/
theorem pickA {r : Addr} {zs : List Int} {l n j : Nat} {E : XK} {Q : VK} (h : EvA tr σ H (zs.map V.int)) (hl : zs.length = l) (l0 : 0 < l) (l1 : l ≤ 100) (g : Rng H r n) (hn : n < 2 ^ 60) (hj : σ[j]? = some (some (.ref r))) (k : ∀ H' z, Bu r H H' → Rng H' r (n + 1) → z ∈ zs → Q (.int z) H') :
    tOp (rIxL K) (tLst tr) (tCall spDraw [] E (tCons (tVar j) (tCons (tC (.int (l : Nat))) tNil))) σ H Q := by
  refine h H (Ex.refl H) _ fun H0 e0 => ⟨by rw [List.length_map]; exact sz_of (by omega), fun t nt => ?_⟩
  have e1 : Ex H (upd H0 t (.lst (zs.map V.int))) := e0.trans (Ex.new nt)
  have htr : t ≠ r := by
    obtain ⟨d, s2, c, q, _⟩ := g.ex e0
    exact fun z => by
      rw [z, q] at nt
      cases nt
  refine draw_at (l := (l : Nat)) (n := n) (ea_cons (ev_var hj) (ea_cons ev_c ea_nil)) (by omega) (log_small (by omega)) hn (g.ex e1) fun H2 v b2 g2 v0 v1 => ?_
  have h2 : H2 t = some (.lst (zs.map V.int)) := b2 _ _ htr upd_same
  obtain ⟨i, rfl⟩ : ∃ i : Nat, v = (i : Int) := ⟨v.toNat, by omega⟩
  have hi : i < zs.length := by omega
  exact ⟨t, _, (i : Int), .int zs[i], rfl, rfl, sq_of h2, atI_nat (by rw [List.getElem?_map, List.getElem?_eq_getElem hi]; rfl), k H2 zs[i] ((Bu.of e1).trans b2) g2 (List.getElem_mem hi)⟩
/-- one of several written texts, drawn -/
theorem pickS {r : Addr} {zs : List Str} {l n j : Nat} {E : XK} {Q : VK} (h : EvA tr σ H (zs.map V.str)) (hl : zs.length = l) (l0 : 0 < l) (l1 : l ≤ 100) (g : Rng H r n) (hn : n < 2 ^ 60) (hj : σ[j]? = some (some (.ref r))) (k : ∀ H' z, Bu r H H' → Rng H' r (n + 1) → z ∈ zs → Q (.str z) H') :
    tOp (rIxL K) (tLst tr) (tCall spDraw [] E (tCons (tVar j) (tCons (tC (.int (l : Nat))) tNil))) σ H Q := by
  refine h H (Ex.refl H) _ fun H0 e0 => ⟨by rw [List.length_map]; exact sz_of (by omega), fun t nt => ?_⟩
  have e1 : Ex H (upd H0 t (.lst (zs.map V.str))) := e0.trans (Ex.new nt)
  have htr : t ≠ r := by
    obtain ⟨d, s2, c, q, _⟩ := g.ex e0
    exact fun z => by
      rw [z, q] at nt
      cases nt
  refine draw_at (l := (l : Nat)) (n := n) (ea_cons (ev_var hj) (ea_cons ev_c ea_nil)) (by omega) (log_small (by omega)) hn (g.ex e1) fun H2 v b2 g2 v0 v1 => ?_
  have h2 : H2 t = some (.lst (zs.map V.str)) := b2 _ _ htr upd_same
  obtain ⟨i, rfl⟩ : ∃ i : Nat, v = (i : Int) := ⟨v.toNat, by omega⟩
  have hi : i < zs.length := by omega
  exact ⟨t, _, (i : Int), .str zs[i], rfl, rfl, sq_of h2, atI_nat (by rw [List.getElem?_map, List.getElem?_eq_getElem hi]; rfl), k H2 zs[i] ((Bu.of e1).trans b2) g2 (List.getElem_mem hi)⟩
end
theorem cut_ints (ns : List Int) (lo hi : Option Int) : ∃ zs : List Int, cutV (ns.map V.int) lo hi = zs.map V.int ∧ (∀ z ∈ zs, z ∈ ns) ∧ zs.length ≤ ns.length := by
  refine ⟨(ns.drop (HT.sIx (ns.map V.int).length 0 lo)).take (HT.sIx (ns.map V.int).length (ns.map V.int).length hi - HT.sIx (ns.map V.int).length 0 lo), ?_, fun z hz => List.mem_of_mem_drop (List.mem_of_mem_take hz), ?_⟩
  · unfold cutV
    rw [List.map_take, List.map_drop]
  · rw [List.length_take, List.length_drop]
    omega
/-! ### the first wrong width, found the law's way -/
def small (z : Int) : Prop := z.natAbs < 2 ^ 110
/-- the law's test of the width at i -/
def badAt (ns : List Int) (i : Nat) : Bool := decide (ns.getD i 0 < 2) || (decide (ns.getD i 0 > 128) || decide (ns.getD i 0 < (2 :: ns).getD i 0))
def wOf : Option V → List V
  | none => []
  | some v => [v]
def spBad (K : PySem.W.Frag) : Sp := fun vs H Q _ => ∃ r p m n, vs = [.ref r, .ref p] ∧ AtM K H p m ∧ m.Ok ∧ n < 2 ^ 50 ∧ Rng H r n ∧
  ∀ q a b H' ns pl, Bu r H H' → Rng H' r (n + 8) → H q = none → q ≠ r → H' q = some (.lst [.ref a, .ref b]) → AtX K H' a ns pl → H' b = some (.lst (wOf (tm ns pl))) → b ≠ r → (∀ z ∈ ns, small z) → ns.length ≤ 12 → Sm (.str pl) → Q (.ref q) H'
end Cf
namespace Cf
open PySem PySem.Spec PyProof.Rows L2 Evl
theorem badAt_zero {n : Int} {r : List Int} : badAt (n :: r) 0 = (decide (n < 2) || decide (n > 128)) := by
  unfold badAt
  simp only [List.getD_cons_zero]
  by_cases h : n < 2 <;> by_cases h2 : n > 128 <;> simp [h, h2]
/-- the first in the law's list is the one that the document's order finds -/
theorem firstBad_given (C : Addr) : ∀ (ns : List Int) (l : Int) (i : Nat) (f : Nat → Bool), 2 ≤ l →
    (∀ j, j < ns.length → f (i + j) = (decide (ns.getD j 0 < 2) || (decide (ns.getD j 0 > 128) || decide (ns.getD j 0 < (l :: ns).getD j 0)))) →
    firstBad C l i ns = (((List.range' i ns.length).filter f).head?).map fun j => (C, V.int (j : Nat))
  | [], _, _, _, _, _ => rfl
  | n :: r, l, i, f, hl, hf => by
    have h0 := hf 0 (by simp)
    simp only [Nat.add_zero, List.getD_cons_zero] at h0
    rw [List.length_cons, List.range'_succ, List.filter_cons]
    unfold firstBad
    by_cases c : n < l ∨ 128 < n
    · have : f i = true := by
        rw [h0]
        rcases c with c | c
        · simp [c]
        · have : n > 128 := c
          simp [this]
      rw [if_pos c, if_pos this]
      rfl
    · have hno : f i = false := by
        rw [h0]
        have a1 : ¬ n < l := fun z => c (.inl z)
        have a2 : ¬ n > 128 := fun z => c (.inr z)
        have a3 : ¬ n < 2 := by omega
        simp [a1, a2, a3]
      rw [if_neg c, if_neg (by rw [hno]; decide)]
      refine firstBad_given C r n (i + 1) f (by omega) fun j hj => ?_
      have := hf (j + 1) (by simp; omega)
      have e : i + (j + 1) = i + 1 + j := by omega
      rw [e] at this
      rw [this]
      simp only [List.getD_cons_succ]
/-- what the law makes of its list of wrong places -/
theorem tm_of (ns : List Int) (pl : Str) (h5 : ns.length = 5) : tm ns pl = match ((List.range ns.length).filter (badAt ns)).head? with
    | some j => some (.int (j : Nat))
    | none => if plOk pl then none else some .non := by
  unfold tm chkM chkW
  rw [if_pos h5, firstBad_given 0 ns 2 0 (badAt ns) (by decide) (fun j _ => by rw [Nat.zero_add]; rfl), List.range_eq_range']
  cases ((List.range' 0 ns.length).filter (badAt ns)).head? with
  | some j => rfl
  | none =>
    show Option.map _ (if plOk pl then none else some (0, V.non)) = if plOk pl then none else some V.non
    by_cases p : plOk pl <;> simp [p]
theorem tm_len (ns : List Int) (pl : Str) (h5 : ns.length ≠ 5) : tm ns pl = some .non := by
  unfold tm chkM chkW
  rw [if_neg h5]
  rfl
end Cf
namespace Cf
open PySem PySem.Spec PyProof.Rows L2 Evl
theorem par3_raw {ta : TA} {tz : TS} {D : Ends} {i j l : Nat} {σ : L2.St} {H : Hp} (h : ta σ H fun vs H1 => ∃ u v w, vs = [u, v, w] ∧ tz D (((σ.set i (some u)).set j (some v)).set l (some w)) H1) : tSeq (tPar3 i j l ta) tz D σ H := h
theorem el_listT {K : PySem.W.Frag} {σ : L2.St} {H : Hp} {ta : TE} {p : Addr} {xs : List V} (ha : Ev ta σ H (.ref p)) (h : SqT K H p xs) : EvL (tCB (rListS K) (tCons ta tNil)) σ H xs := fun H1 e Q q =>
  ha H1 e _ fun H2 e2 => ⟨p, xs, rfl, .inr (ex_t (e.trans e2) h), fun l nl => q l _ (fresh_back e2 nl) (e2.trans (Ex.new nl)) upd_same⟩
structure Sg (H0 H : Hp) (r : Addr) (n : Nat) (lw : Addr) (ns : List Int) : Prop where
  bu : Bu r H0 H
  g : Rng H r n
  n0 : H0 lw = none
  nr : lw ≠ r
  hl : H lw = some (.lst (ns.map V.int))
  sm : ∀ z ∈ ns, small z
theorem Sg.b {H0 H H' : Hp} {r lw : Addr} {n n' : Nat} {ns : List Int} (s : Sg H0 H r n lw ns) (e : Bu r H H') (g : Rng H' r n') : Sg H0 H' r n' lw ns := ⟨s.bu.trans e, g, s.n0, s.nr, e _ _ s.nr s.hl, s.sm⟩
theorem Sg.ex {H0 H H' : Hp} {r lw : Addr} {n : Nat} {ns : List Int} (s : Sg H0 H r n lw ns) (e : Ex H H') : Sg H0 H' r n lw ns := s.b (Bu.of e) (s.g.ex e)
theorem Sg.le {H0 H : Hp} {r lw : Addr} {n n' : Nat} {ns : List Int} (s : Sg H0 H r n lw ns) (l : n ≤ n') : Sg H0 H r n' lw ns := ⟨s.bu, s.g.le l, s.n0, s.nr, s.hl, s.sm⟩
theorem Sg.set {H0 H : Hp} {r lw : Addr} {n j : Nat} {ns : List Int} {z : Int} (s : Sg H0 H r n lw ns) (hz : small z) : Sg H0 (upd H lw (.lst ((ns.map V.int).set j (.int z)))) r n lw (ns.set j z) where
  bu := fun b o nb q => by
    rw [upd_ne (fun e => by rw [e, s.n0] at q; cases q)]
    exact s.bu _ _ nb q
  g := by
    obtain ⟨d, s2, c, q, q2⟩ := s.g
    exact ⟨d, s2, c, by rw [upd_ne (Ne.symm s.nr)]; exact q, q2⟩
  n0 := s.n0
  nr := s.nr
  hl := by rw [upd_same, List.map_set]
  sm := fun y hy => by
    rcases List.mem_or_eq_of_mem_set hy with h | h
    · exact s.sm y h
    · rw [h]; exact hz
theorem fresh_bu {H0 H : Hp} {r l : Addr} {n : Nat} (b : Bu r H0 H) (g : Rng H r n) (h : H l = none) : H0 l = none ∧ l ≠ r := by
  have nr : l ≠ r := fun z => by
    obtain ⟨d, s2, c, q, _⟩ := g
    rw [z, q] at h
    cases h
  refine ⟨?_, nr⟩
  cases q : H0 l with
  | none => rfl
  | some o =>
    have := b _ _ nr q
    rw [h] at this
    cases this
theorem Sg.re {H0 H H' : Hp} {r lw l : Addr} {n n' : Nat} {ns zs : List Int} (s : Sg H0 H r n lw ns) (e : Bu r H H') (g : Rng H' r n') (nl : H l = none) (hl : H' l = some (.lst (zs.map V.int))) (sm : ∀ z ∈ zs, small z) : Sg H0 H' r n' l zs := by
  obtain ⟨a, b⟩ := fresh_bu s.bu s.g nl
  exact ⟨s.bu.trans e, g, a, b, hl, sm⟩
theorem small_of {z : Int} {zs : List Int} (h : z ∈ zs) (hs : (zs.all fun z => decide (z.natAbs < 2 ^ 110)) = true) : small z := (of_decide_eq_true (List.all_eq_true.mp hs z h) : z.natAbs < 2 ^ 110)
end Cf
namespace Cf
open PySem PySem.Spec PyProof.Rows L2 Evl
theorem el_if {σ : L2.St} {H : Hp} {t : TT} {ta tb : TE} {b : Bool} {xs : List V} (h : EvT t σ H b) (h1 : b = true → EvL ta σ H xs) (h2 : b = false → EvL tb σ H xs) : EvL (tIf t ta tb) σ H xs := fun H1 e Q q => h H1 e _ fun H2 e2 => by
  cases b with
  | true => exact iteT (h1 rfl H2 (e.trans e2) Q fun p H3 n e3 h3 => q p H3 (fresh_back e2 n) (e2.trans e3) h3)
  | false => exact iteF (h2 rfl H2 (e.trans e2) Q fun p H3 n e3 h3 => q p H3 (fresh_back e2 n) (e2.trans e3) h3)
def natD (js : List Nat) : List PyData := js.map fun j => .int (j : Nat)
theorem natD_lay : ∀ js : List Nat, PyData.canLayAll0 (natD js) = true
  | [] => by simp [natD, PyData.canLayAll0]
  | j :: js => by
    have ih := natD_lay js
    unfold natD at ih ⊢
    simp [PyData.canLayAll0, PyData.canLay0, ih]
theorem natD_depth : ∀ js : List Nat, PyData.depthAll (natD js) ≤ 2
  | [] => by simp [natD, PyData.depthAll]
  | j :: js => by
    have ih := natD_depth js
    unfold natD at ih ⊢
    simp only [List.map_cons, PyData.depthAll, PyData.depth]
    omega
theorem natD_shaped (js : List Nat) : SeqAt.shaped (.list (natD js)) = true := by
  have h1 := natD_depth js
  show (PyData.canLay0 (.list (natD js)) && decide (PyData.depth (.list (natD js)) ≤ 64)) = true
  rw [Bool.and_eq_true]
  refine ⟨by simp only [PyData.canLay0]; exact natD_lay js, decide_eq_true ?_⟩
  simp only [PyData.depth]
  omega
theorem natD_dp {K : PySem.W.Frag} {H : Hp} : ∀ js : List Nat, DpAll K H (js.map fun j => V.int (j : Nat)) (natD js)
  | [] => .nil
  | j :: js => .cons (.int _) (natD_dp js)
/-- xs != [] -/
theorem ev_neNil {K : PySem.W.Frag} {σ : L2.St} {H : Hp} {ta : TE} {a : Addr} {js : List Nat} (ha : Ev ta σ H (.ref a)) (h : H a = some (.lst (js.map fun j => V.int (j : Nat)))) : Ev (tOp (rNeD K) ta (tLst tNil)) σ H (.bl (!js.isEmpty)) :=
  ev_opL (xs := []) ha (el_lst ea_nil (by decide)) fun q H1 hq e => fun H2 e2 Q k => ⟨.list (natD js), .list (natD []), .lst (sq_of (e2 _ _ (e _ _ h))) (natD_dp js), .lst (sq_of (e2 _ _ hq)) .nil, natD_shaped js, natD_shaped [], by
    have : PyData.eqv (.list (natD js)) (.list (natD [])) = js.isEmpty := by
      cases js with
      | nil => rfl
      | cons j js => simp [natD, PyData.eqv, PyData.eqvAll]
    rw [this]
    exact k H2 (Ex.refl H2)⟩
theorem given_eq (n : Nat) (f : Nat → Bool) : given n f (fun i => V.int (i : Nat)) = ((List.range n).filter f).map fun j => V.int (j : Nat) := rfl
end Cf
namespace Cf
open PySem PySem.Spec PyProof.Rows L2 Evl
def vODD : List V := [.str "", .str "Int", .str "intt", .str "in", .str "u", .str "unsigned", .str "longs", .str "int ", .str "float"]
def labs : List Str := ["char", "schar", "uchar", "short", "ushort", "int", "uint", "long", "ulong", "wide", "uwide", "", "Int", "intt", "in", "u", "unsigned", "longs", "int ", "float"]
def spLabel : Sp := fun vs H Q _ => ∃ r n, vs = [.ref r] ∧ n < 2 ^ 50 ∧ Rng H r n ∧ ∀ H' x, Bu r H H' → Rng H' r (n + 1) → x ∈ labs → Q (.str x) H'
end Cf
namespace Cf
open PySem PySem.Spec PyProof.Rows L2 Evl
theorem AtX.bu {K : PySem.W.Frag} {r p : Addr} {n : Nat} {H H1 : Hp} {ns : List Int} {pl : Str} (e : Bu r H H1) (g : Rng H r n) (h : AtX K H p ns pl) : AtX K H1 p ns pl := by
  obtain ⟨q, a, b⟩ := h
  exact ⟨q, e.t g a, e.t g b⟩
theorem AtX.dp {K : PySem.W.Frag} {H : Hp} {p : Addr} {ns : List Int} {pl : Str} (h : AtX K H p ns pl) : Dp K H (.ref p) (.tuple [.tuple (ns.map PyData.int), .str pl]) := by
  obtain ⟨q, a, b⟩ := h
  exact .tup a (.cons (.tup b (dp_ints _)) (.cons (.str _) .nil))
theorem sm_ints : ∀ {ns : List Int}, (∀ z ∈ ns, small z) → SmAll (ns.map PyData.int)
  | [], _ => trivial
  | n :: r, h => ⟨by
    have := h n List.mem_cons_self
    unfold small at this
    show n.natAbs < 2 ^ 140
    omega, sm_ints fun z hz => h z (List.mem_cons_of_mem _ hz)⟩
theorem sz_ints : ∀ ns : List Int, szAll (ns.map PyData.int) = ns.length
  | [] => rfl
  | n :: r => by
    show 1 + szAll (r.map PyData.int) = r.length + 1
    rw [sz_ints r]
    omega
theorem depth_ints : ∀ ns : List Int, PyData.depthAll (ns.map PyData.int) ≤ 2
  | [] => by simp [PyData.depthAll]
  | n :: r => by
    have := depth_ints r
    simp only [List.map_cons, PyData.depthAll, PyData.depth]
    omega
theorem labs_sm : ∀ x ∈ labs, Sm (.str x) := by
  have h : (labs.all fun x => decide (x.cps.size ≤ 30) && x.cps.toList.all fun c => decide (c < 16 ^ 8)) = true := by decide +kernel
  intro x hx
  have := List.all_eq_true.mp h x hx
  rw [Bool.and_eq_true] at this
  exact ⟨of_decide_eq_true this.1, this.2⟩
/-- what is told, as data -/
def dV : V → PyData
  | .int i => .int i
  | .str s => .str s
  | _ => .none
def okV (v : V) : Prop := v = .non ∨ (∃ i, v = .int i ∧ i.natAbs < 2 ^ 140) ∨ ∃ x, v = .str x ∧ Sm (.str x)
def dat : Option (Bool × V) → PyData
  | none => .none
  | some (b, v) => .list [.str (nmOf b), dV v]
def okO (o : Option (Bool × V)) : Prop := ∀ b v, o = some (b, v) → okV v
def Tv (H : Hp) (o : Option (Bool × V)) (x : V) : Prop := (o = none ∧ x = .non) ∨ ∃ b v a, o = some (b, v) ∧ x = .ref a ∧ H a = some (.lst [.str (nmOf b), v])
theorem Tv.ex {H H' : Hp} {o : Option (Bool × V)} {x : V} (h : Tv H o x) (e : Ex H H') : Tv H' o x := by
  rcases h with h | ⟨b, v, a, h1, h2, h3⟩
  · exact .inl h
  · exact .inr ⟨b, v, a, h1, h2, e _ _ h3⟩
theorem dV_dp {K : PySem.W.Frag} {H : Hp} {v : V} (h : okV v) : Dp K H v (dV v) := by
  rcases h with rfl | ⟨i, rfl, _⟩ | ⟨x, rfl, _⟩
  · exact .non
  · exact .int i
  · exact .str x
theorem dV_sm {v : V} (h : okV v) : Sm (dV v) := by
  rcases h with rfl | ⟨i, rfl, h⟩ | ⟨x, rfl, h⟩
  · trivial
  · exact h
  · exact h
theorem dV_sz (v : V) : szD (dV v) = 1 := by cases v <;> rfl
theorem dV_depth (v : V) : PyData.depth (dV v) ≤ 1 := by cases v <;> simp [dV, PyData.depth]
theorem Tv.dp {K : PySem.W.Frag} {H : Hp} {o : Option (Bool × V)} {x : V} (h : Tv H o x) (k : okO o) : Dp K H x (dat o) := by
  rcases h with ⟨rfl, rfl⟩ | ⟨b, v, a, rfl, rfl, h⟩
  · exact .non
  · exact .lst (sq_of h) (.cons (.str _) (.cons (dV_dp (k b v rfl)) .nil))
theorem nm_sm (b : Bool) : Sm (.str (nmOf b)) := by cases b <;> exact ⟨by decide, by decide⟩
theorem dat_sm {o : Option (Bool × V)} (k : okO o) : Sm (dat o) := by
  cases o with
  | none => trivial
  | some z =>
    obtain ⟨b, v⟩ := z
    exact ⟨nm_sm b, dV_sm (k b v rfl), trivial⟩
theorem dat_sz (o : Option (Bool × V)) : szD (dat o) ≤ 3 := by
  cases o with
  | none => decide
  | some z =>
    obtain ⟨b, v⟩ := z
    show 1 + (1 + (szD (dV v) + 0)) ≤ 3
    rw [dV_sz]
    omega
theorem dat_depth (o : Option (Bool × V)) : PyData.depth (dat o) ≤ 4 := by
  cases o with
  | none => simp [dat, PyData.depth]
  | some z =>
    obtain ⟨b, v⟩ := z
    have := dV_depth v
    simp only [dat, PyData.depth, PyData.depthAll]
    omega
theorem firstBad_ok {C : Addr} : ∀ {ns : List Int} {l : Int} {i : Nat} {z : Addr × V}, firstBad C l i ns = some z → i + ns.length ≤ 100 → okV z.2
  | [], _, _, _, h, _ => nomatch h
  | n :: r, l, i, z, h, hl => by
    unfold firstBad at h
    rw [List.length_cons] at hl
    split at h
    · cases h
      exact .inr (.inl ⟨_, rfl, by omega⟩)
    · exact firstBad_ok h (by omega)
theorem tm_okV {ns : List Int} {pl : Str} {v : V} (h : tm ns pl = some v) (hl : ns.length ≤ 12) : okV v := by
  unfold tm chkM chkW at h
  by_cases h5 : ns.length = 5
  · rw [if_pos h5] at h
    cases q : firstBad 0 2 0 ns with
    | none =>
      rw [q] at h
      by_cases p : plOk pl <;> simp [p] at h
      exact .inl h.symm
    | some z =>
      rw [q] at h
      cases h
      exact firstBad_ok q (by omega)
  · rw [if_neg h5] at h
    cases h
    exact .inl rfl
theorem tk_okV {x : Str} {v : V} (h : tkd x = some v) (hx : Sm (.str x)) : okV v := by
  unfold tkd at h
  split at h
  · exact nomatch h
  · cases h
    exact .inr (.inr ⟨x, rfl, hx⟩)
theorem told1_ok {ns : List Int} {pl x : Str} (hl : ns.length ≤ 12) (hx : Sm (.str x)) : okO (told1 ns pl x) := fun b v h => by
  unfold told1 at h
  cases q : tm ns pl with
  | some z =>
    rw [q] at h
    cases h
    exact tm_okV q hl
  | none =>
    rw [q] at h
    obtain ⟨z, h1, h2⟩ := Option.map_eq_some_iff.mp h
    cases h2
    exact tk_okV h1 hx
theorem told2_ok {ns : List Int} {pl x y : Str} (hl : ns.length ≤ 12) (hx : Sm (.str x)) (hy : Sm (.str y)) : okO (told2 ns pl x y) := fun b v h => by
  unfold told2 at h
  cases q : told1 ns pl x with
  | some z =>
    rw [q] at h
    cases h
    exact told1_ok hl hx _ _ q
  | none =>
    rw [q] at h
    obtain ⟨z, h1, h2⟩ := Option.map_eq_some_iff.mp h
    cases h2
    exact tk_okV h1 hy
theorem et_isN {σ : L2.St} {H : Hp} {ta : TE} {v : V} (h : Ev ta σ H v) : EvT (tB (tIsN ta)) σ H (decide (v = .non)) := fun H1 e Q q => h H1 e _ fun H2 e2 => ⟨_, rfl, q H2 e2⟩
theorem asg_raw {te : TE} {g : TG} {tz : TS} {D : Ends} {σ : L2.St} {H : Hp} (h : te σ H fun x H1 => g x σ H1 (tz D)) : tSeq (tAsg te g) tz D σ H := h
/-- wrong != [] -/
theorem ev_neW {K : PySem.W.Frag} {σ : L2.St} {H : Hp} {ta : TE} {a : Addr} {o : Option V} (ha : Ev ta σ H (.ref a)) (h : H a = some (.lst (wOf o))) (k : ∀ v, o = some v → okV v) (hs : ∀ v, o = some v → SeqAt.shaped (.list [dV v]) = true) : Ev (tOp (rNeD K) ta (tLst tNil)) σ H (.bl o.isSome) :=
  ev_opL (xs := []) ha (el_lst ea_nil (by decide)) fun q H1 hq e => fun H2 e2 Q kq => by
    cases o with
    | none => exact ⟨.list [], .list [], .lst (sq_of (e2 _ _ (e _ _ h))) .nil, .lst (sq_of (e2 _ _ hq)) .nil, natD_shaped [], natD_shaped [], by
        have : PyData.eqv (.list []) (.list []) = true := by simp [PyData.eqv, PyData.eqvAll]
        rw [this]
        exact kq H2 (Ex.refl H2)⟩
    | some v => exact ⟨.list [dV v], .list [], .lst (sq_of (e2 _ _ (e _ _ h))) (.cons (dV_dp (k v rfl)) .nil), .lst (sq_of (e2 _ _ hq)) .nil, hs v rfl, natD_shaped [], by
        have : PyData.eqv (.list [dV v]) (.list []) = false := by simp [PyData.eqv, PyData.eqvAll]
        rw [this]
        exact kq H2 (Ex.refl H2)⟩
end Cf
namespace Cf
open PySem PySem.Spec PyProof.Rows L2 Evl
theorem firstBad_int {C : Addr} : ∀ {ns : List Int} {l : Int} {i : Nat} {z : Addr × V}, firstBad C l i ns = some z → ∃ j : Int, z.2 = .int j
  | [], _, _, _, h => nomatch h
  | n :: r, l, i, z, h => by
    unfold firstBad at h
    split at h
    · cases h
      exact ⟨_, rfl⟩
    · exact firstBad_int h
theorem tm_shape {ns : List Int} {pl : Str} {v : V} (h : tm ns pl = some v) : SeqAt.shaped (.list [dV v]) = true := by
  have hv : v = .non ∨ ∃ j : Int, v = .int j := by
    unfold tm chkM chkW at h
    by_cases h5 : ns.length = 5
    · rw [if_pos h5] at h
      cases q : firstBad 0 2 0 ns with
      | none =>
        rw [q] at h
        by_cases p : plOk pl <;> simp [p] at h
        exact .inl h.symm
      | some z =>
        rw [q] at h
        cases h
        exact .inr (firstBad_int q)
    · rw [if_neg h5] at h
      cases h
      exact .inl rfl
  rcases hv with rfl | ⟨j, rfl⟩
  · rfl
  · show (PyData.canLay0 (.list [.int j]) && decide (PyData.depth (.list [.int j]) ≤ 64)) = true
    simp [PyData.canLay0, PyData.canLayAll0, PyData.depth, PyData.depthAll]
def ds6 (o1 o2 : Option (Bool × V)) : List PyData := [dat o1, dat o1, dat o1, dat o1, dat o1, dat o2]
theorem ds6_sm {o1 o2 : Option (Bool × V)} (k1 : okO o1) (k2 : okO o2) : Sm (.list (ds6 o1 o2)) := ⟨dat_sm k1, dat_sm k1, dat_sm k1, dat_sm k1, dat_sm k1, dat_sm k2, trivial⟩
theorem ds6_sz (o1 o2 : Option (Bool × V)) : szD (.list (ds6 o1 o2)) ≤ 800 := by
  have h1 := dat_sz o1
  have h2 := dat_sz o2
  show 1 + (szD (dat o1) + (szD (dat o1) + (szD (dat o1) + (szD (dat o1) + (szD (dat o1) + (szD (dat o2) + 0)))))) ≤ 800
  omega
theorem ds6_depth (o1 o2 : Option (Bool × V)) : PyData.depth (.list (ds6 o1 o2)) ≤ 60 := by
  have h1 := dat_depth o1
  have h2 := dat_depth o2
  simp only [ds6, PyData.depth, PyData.depthAll]
  omega
theorem told2_of_some {ns : List Int} {pl x y : Str} {z : Bool × V} (h : told1 ns pl x = some z) : told2 ns pl x y = some z := by
  unfold told2
  rw [h]
theorem kdOk_good (x : Str) : inV (.str x) vKINDS = kdOk x := rfl
theorem toldP_lt {i : Nat} {ns : List Int} {pl x y : Str} (h : i < 5) : toldP (0 + (i : Int)) ns pl x y = told1 ns pl x := by
  unfold toldP
  rw [if_neg (by omega)]
theorem toldP_5 {ns : List Int} {pl x y : Str} : toldP (0 + ((5 : Nat) : Int)) ns pl x y = told2 ns pl x y := rfl
end Cf
namespace Cf
open PySem PySem.Spec PyProof.Rows L2 Evl
theorem lcr_go {tr : TA} {g : TG} {tt : TT} {te : TE} {vs : List Nat} {σ : L2.St} {H : Hp} {Q : VK} {n : Nat} (h : EvA tr σ H [.int (n : Nat)]) (hn : n ≤ 100000)
    (Pv : Hp → Addr → Nat → Hp → Prop) (h0 : ∀ H1 D, Ex H H1 → H1 D = none → Pv H1 D 0 (upd H1 D (.lst [])))
    (hs : ∀ H1 D i H', Ex H H1 → H1 D = none → i < n → Pv H1 D i H' → g (.int (0 + (i : Nat))) (wipe σ vs) H' fun σ2 H2 => wipe σ2 vs = wipe σ vs ∧ tt σ2 H2 fun b H3 =>
      if b = true then te σ2 H3 fun y H4 => ∃ acc, H4 D = some (.lst acc) ∧ acc.length < sizeLine ∧ Pv H1 D (i + 1) (upd H4 D (.lst (acc ++ [y]))) else Pv H1 D (i + 1) H3)
    (hd : ∀ H1 D H', Ex H H1 → H1 D = none → Pv H1 D n H' → Q (.ref D) H') : tLc (iRng1 tr) g tt te vs σ H Q :=
  h H (Ex.refl H) _ fun H1 e1 => ⟨(n : Int), rfl, by omega, by omega, fun D hD => lc_range (lo := 0) (n := n) (Pv H1 D) (h0 H1 D e1 hD) (fun i H' hi p => hs H1 D i H' e1 hD hi p) (fun H' p => hd H1 D H' e1 hD p)⟩
end Cf
namespace Cf
open PySem PySem.Spec PyProof.Rows L2 Evl
theorem yes_if {σ : L2.St} {H : Hp} {A B : Hp → Prop} (h : A H) : tYes σ H fun b H3 => if b = true then A H3 else B H3 := (if_true_of_ rfl h : if true = true then A H else B H)
end Cf
namespace Cf
open PySem PySem.Spec PyProof.Rows L2 Evl
theorem next_raw {D : Ends} {σ : L2.St} {H : Hp} (h : D.nx σ H) : tNext D σ H := h
theorem ret_raw {te : TE} {D : Ends} {σ : L2.St} {H : Hp} (h : te σ H D.rt) : tRet te D σ H := h
end Cf

namespace PySem.CfK
open PySem.W PySem.Calls PyProof.Rows PySem.HandSPX
/-! ## an own exception made by keywords alone -/
section
variable {M : Model} {A : Around} {E : Value → Shared → Prop} {h : Heap} {g : Array GenState} {d : Drawn} {t : Nat} {os : OsState}
variable {nm q : Str} {C N : Addr} {bs bm bmB : List Value} {hdct : Bool} {sn : List Str} {sub : List Value} {ab : Bool} {col : Option Bool} {dd : Option Addr} {k0 k1 k2 k3 k5 : Option Value} {B newId initId : String}
theorem check_new_ownK (F : ExcBaseFacts B newId initId bmB) (hT : ∀ X : String, bm.contains (.type X) = bmB.contains (.type X)) {kw : List (Str × Value)} {Q : Unit → Shared → Prop}
    (hC : h.get? C = some (excClassObj nm q C N bs bm hdct sn sub ab col dd k0 k1 k2 k3 k5 newId)) (hq : Q () ⟨h, g, d, t, os⟩) : wpAny M A (checkBuiltinCall newId ⟨[.ref C], kw⟩) Q E ⟨h, g, d, t, os⟩ := by
  have hcont : (Value.ref C :: bm).contains (.type B) = true := by rw [List.contains_cons, hT, F.hasB, Bool.or_true]
  have hstar := F.noStar
  simp only [checkBuiltinCall, F.newKind, F.newSplit, F.newRow]
  repeat (first | refine wpAny_loadPart_at hC ?_ | (refine wpAny_isSubtype_exc hC ?_; rw [hcont]) | refine wpAny_staticBase_exc hC ?_ | refine wpAny_madeBy_exc hC ?_ | simp only [bne_self_eq_false, Bool.false_eq_true, if_false] | wp_step)
  exact hq
end
section
variable {prog : Program} {w : World} {A : Around} {E : Value → Shared → Prop} {R : Result → Shared → Prop} {h : Heap} {g : Array GenState} {d : Drawn} {t : Nat} {os : OsState}
variable {nm q : Str} {C N : Addr} {bs bm bmB : List Value} {hdct : Bool} {sn : List Str} {sub : List Value} {ab : Bool} {col : Option Bool} {dd : Option Addr} {k0 k1 k2 k3 k5 : Option Value} {B newId initId : String}
theorem new_ownK (F : ExcBaseFacts B newId initId bmB) (hT : ∀ X : String, bm.contains (.type X) = bmB.contains (.type X)) {kw : List (Str × Value)}
    (hC : h.get? C = some (excClassObj nm q C N bs bm hdct sn sub ab col dd k0 k1 k2 k3 k5 newId))
    (hq : R (.ok (.ret (.ref (h.objs.size + 1)))) ⟨(h.push { cls := .type "tuple", data := .seq #[] }).push
      { cls := .ref C, data := .fields #[.ref h.objs.size, .none, .none, .none, .bool false, .none] }, g, d, t, os⟩) :
    codeAny (model prog w) A (.builtin newId ⟨[.ref C], kw⟩) R ⟨h, g, d, t, os⟩ := by
  have hends := F.ends
  have hcB : (Value.ref C :: bm).contains (.type B) = true := by rw [List.contains_cons, hT, F.hasB, Bool.or_true]
  have hcA : (Value.ref C :: bm).contains (.type "AttributeError") = false := by rw [List.contains_cons, hT, F.noAttr]; rfl
  have hcN : (Value.ref C :: bm).contains (.type "NameError") = false := by rw [List.contains_cons, hT, F.noName]; rfl
  refine codeAny_builtinAt F.entry ?_
  unfold Builtin.«BaseException.__new__»
  refine wpAt_bind ?_
  show wpAt _ _ _ (stack >>= _) _ _ _
  refine wpAt_bind (wpAt_stack fun p below => wpAt_of_wpAny ?_)
  wp_walk
  refine wpAt_of_wpAny ?_
  rw [F.owner]
  repeat (first | with_reducible refine wpAny_madeHere_exc F.canon hC ?_ | with_reducible refine wpAny_loadPart_at hC ?_ | (with_reducible refine wpAny_isSubtype_exc hC ?_; first | rw [hcB] | rw [hcA] | rw [hcN]) | wp_step)
  show R _ _
  rw [Heap.size_push]
  exact hq
theorem type_call_ownK (F : ExcBaseFacts B newId initId bmB) (hT : ∀ X : String, bm.contains (.type X) = bmB.contains (.type X)) {kw : List (Str × Value)} {fI : Addr} {Q : Fin → Shared → Prop}
    (hC : h.get? C = some (excClassObj nm q C N bs bm hdct sn sub ab col dd k0 k1 k2 k3 k5 newId))
    (hi : W.Looks (model prog w) h (typeLookup (.ref C) "__init__") (some (.ref fI))) (hb : ∀ self, W.Looks (model prog w) h (bindSpecial (.ref fI) self) (.ref fI, [self]))
    (hq : codeAny (model prog w) A (.call (.ref fI) ⟨[.ref (h.objs.size + 1)], kw⟩)
      (fun r s' => match r with | .ok (.ret v) => v = .none ∧ Q (.done (.ret (.ref (h.objs.size + 1)))) s' | .ok _ => False | .error e => E e s')
      ⟨(h.push (W.kdv_tup [])).push (excO C h.objs.size), g, d, t, os⟩) :
    wpAny (model prog w) A (Builtin.«type.__call__» ⟨[.ref C], kw⟩) Q E ⟨h, g, d, t, os⟩ := by
  repeat (first | with_reducible refine wpAny_loadPart_at hC ?_ | with_reducible refine wpAny_madeBy_exc hC ?_ | wp_step)
  refine codeAny_call_builtin_code (Code.quiet_builtin _ F.quiet) (check_new_ownK F hT hC ?_)
  refine new_ownK F hT hC ?_
  show wpAny _ _ _ _ _ _
  have k : ∀ b o, h.get? b = some o → ((h.push (W.kdv_tup [])).push (excO C h.objs.size)).get? b = some o := fun b o e => Heap.get?_push_of_some _ (Heap.get?_push_of_some _ e)
  have hC₁ := k _ _ hC
  have hget : ((h.push (W.kdv_tup [])).push (excO C h.objs.size)).get? (h.objs.size + 1) = some (excO C h.objs.size) := by heap_get
  have hcC : (Value.ref C :: bm).contains (.ref C) = true := by simp
  have i1 := hi.keeps k
  have b1 := (hb (.ref (h.objs.size + 1))).keeps k
  unfold isInstance
  repeat (first | with_reducible refine wpAny_loadPart_at hget ?_ | (with_reducible refine wpAny_isSubtype_exc hC₁ ?_; rw [hcC]) | wp_step)
  show wpAny _ _ (typeLookup (.ref C) _) _ _ _
  refine i1.at ?_
  refine wpAny_holding (wpAny_bind (b1.at ?_))
  refine wpAny_bind (wpAny_call (codeAny_mono hq fun r s' z => ?_))
  rcases r with e | (v | _ | _ | _) <;> first | exact z | exact z.elim | skip
  obtain ⟨rfl, z⟩ := z
  first
    | exact wpAny_pure (wpAny_pure z)
    | (wp_walk; exact z)
theorem call_ownK (F : ExcBaseFacts B newId initId bmB) (hT : ∀ X : String, bm.contains (.type X) = bmB.contains (.type X)) {kw : List (Str × Value)} {fI : Addr}
    (hC : h.get? C = some (excClassObj nm q C N bs bm hdct sn sub ab col dd k0 k1 k2 k3 k5 newId))
    (hi : W.Looks (model prog w) h (typeLookup (.ref C) "__init__") (some (.ref fI))) (hb : ∀ self, W.Looks (model prog w) h (bindSpecial (.ref fI) self) (.ref fI, [self]))
    (hq : codeAny (model prog w) (A.under (.builtin "type.__call__" ⟨[.ref C], kw⟩)) (.call (.ref fI) ⟨[.ref (h.objs.size + 1)], kw⟩) (W.InitBack (h.objs.size + 1) R)
      ⟨(h.push (W.kdv_tup [])).push (excO C h.objs.size), g, d, t, os⟩) :
    codeAny (model prog w) A (.call (.ref C) ⟨[], kw⟩) R ⟨h, g, d, t, os⟩ := by
  have f1 := tc_lookup
  have f2 := tc_bind (.ref C)
  have hTy : (⟨h, g, d, t, os⟩ : Shared).TypeIs (.ref C) "type" := ⟨_, hC, rfl⟩
  refine codeAny_of_tree ?_
  show wpAny _ _ (callAny (.ref C) _) _ _ _
  repeat (any_goals (first | assumption | with_reducible refine wpAny_loadPart_at hC ?_ | wp_step))
  refine ⟨rfl, ?_⟩
  refine codeAny_call_builtin_at (Code.quiet_builtin _ (by decide +kernel)) entry_typeCall (wpAny_check_type_call_sub hC (type_call_ownK F hT hC hi hb ?_))
  refine codeAny_mono hq fun r s' z => ?_
  rcases r with e | (v | _ | _ | _) <;> exact z
end
end PySem.CfK
namespace Cf
open PySem PySem.Spec PyProof.Rows L2 Evl
/-- the class, its __init__ as a def, also by keyword -/
def XiK (P : Program) (w : World) (K : PySem.W.Frag) (mg : Str → Option Value) (base : Heap) (x : Str) (C : Addr) : Prop :=
  ∃ fI fd, XC K mg x C fI ∧ FnOk P w K mg base CX0 1 fI fd ["self", "value"] (spInit K) ∧ Binds K fd ["self", "value"] [] ∧ ∀ (s : Shared) (a u : Value), BindsTo s fd ⟨[a], [(vVal, u)]⟩ [("self", a), ("value", u)]
theorem XiK.xi {P : Program} {w : World} {K : PySem.W.Frag} {mg : Str → Option Value} {base : Heap} {x : Str} {C : Addr} (h : XiK P w K mg base x C) : Xi P w K mg base x C := by
  obtain ⟨fI, fd, a, b, c, _⟩ := h
  exact ⟨fI, fd, a, b, c⟩
section
variable {X : Cx} {x : Str} {C : Addr} {kws : List Keyword} {tk : TA} {p pos : Pos}
theorem pmk_zK {k : Nat} (T : XiK X.prog X.w X.K X.mg X.base x C) (hr : Room k X.A) (hkw : PK X kws tk) (hg : Gl X x) (hk : 2 ≤ k := by decide)
    (hall : (backToKw pos (keywordEach kws X.env)).all (·.1.isSome) = true := by rfl)
    (hks : (backToKw pos (keywordEach kws X.env)).filterMap (·.1) = [vVal] := by rfl) (hdb : (x == ("__debug__" : Str)) = false := by decide)
    (hpl : ((backTo pos (starEach [] X.env)).any (·.1) || (backToKw pos (keywordEach kws X.env)).any (·.1.isNone)) = false := by rfl) :
    PMk X (.Call (.Name x p) [] kws pos) (fun σ H Q => tk σ H fun zs H1 => ∃ v, zs = [v] ∧ Out C v H1 Q) := by
  obtain ⟨fI, fd, T, F1, hb, hbk⟩ := T
  intro pins s σ H Q I h
  obtain ⟨nm, q, N, bs, bm, sn, sub, ab, col, dd, k0, k1, k2, k3, k5, hC, hbm⟩ := T.o.cls
  refine wpAny_Call_Name_kw (ld_glob I hg T.g ?_ hdb)
  refine PySem.W.callWith_KW0 (h₀ := X.base) I.ok.mod.kin T.o.kC hall (thn (hkw.run pos pins s σ H _ I h) fun ws s1 hh => ?_) hpl
  obtain ⟨zs, H1, I1, rz, v, rfl, hO⟩ := hh
  refine ⟨I1.kIn, ?_⟩
  rw [hks]
  cases rz with
  | @cons _ u _ us rv rn =>
    cases rn
    show wpAny _ _ (call (.ref C) [] [(vVal, u)]) _ _ _
    obtain ⟨hp, g, dr, tk', os⟩ := s1
    have hsz : hp.objs.size ≤ hp.objs.size + 1 := Nat.le_succ _
    have hn : H1 (hp.objs.size + 1) = none := I1.hok.fresh hsz
    have hq : spInit X.K [.ref (hp.objs.size + 1), v] (upd H1 (hp.objs.size + 1) (exo (hp.objs.size + 1) C none)) (fun v' H2 => v' = .non ∧ ∃ (d : Addr) (fs : List (Str × V)), H2 (hp.objs.size + 1) = some (exo (hp.objs.size + 1) C (some d)) ∧ H2 d = some (exd d fs) ∧ H1 d = none ∧ Q (.ref C) (some d) (upd (del H2 (hp.objs.size + 1)) d (.xd fs))) (fun _ _ _ => False) := by
      refine ⟨hp.objs.size + 1, v, C, rfl, T.o, T.no, upd_same, fun dx ndx nea => ⟨rfl, dx, [(vVal, v)], upd_same, by rw [upd_ne nea, upd_same], ?_, ?_⟩⟩
      · rw [upd_ne nea] at ndx
        exact ndx
      · rw [upd_ne nea] at ndx
        refine hO dx _ ndx (fun b o q => ?_) upd_same
        have nb : b ≠ hp.objs.size + 1 := fun z => by rw [z, hn] at q; cases q
        have nd : b ≠ dx := fun z => by rw [z, ndx] at q; cases q
        rw [upd_ne nd, del_ne nb, upd_ne nb, upd_ne nd, upd_ne nb]
        exact q
    have kk : ∀ b o, hp.get? b = some o → ((hp.push (PySem.W.kdv_tup [])).push (PySem.HandSPX.excO C hp.objs.size)).get? b = some o := fun b o e => Heap.get?_push_of_some _ (Heap.get?_push_of_some _ e)
    have hget : ((hp.push (PySem.W.kdv_tup [])).push (PySem.HandSPX.excO C hp.objs.size)).get? (hp.objs.size + 1) = some (PySem.HandSPX.excO C hp.objs.size) := by heap_get
    have I2 : Inv X pins σ (upd H1 (hp.objs.size + 1) (exo (hp.objs.size + 1) C none)) ⟨(hp.push (PySem.W.kdv_tup [])).push (PySem.HandSPX.excO C hp.objs.size), g, dr, tk', os⟩ :=
      I1.laid (t' := tk') (a := hp.objs.size + 1) (o := exo (hp.objs.size + 1) C none) (h' := (hp.push (PySem.W.kdv_tup [])).push (PySem.HandSPX.excO C hp.objs.size)) kk hsz (exo_ok hget)
    refine wpAny_call (PySem.CfK.call_ownK F.excBase_ValueError (fun Y => PySem.HandSPX.refsVE_contains Y bm hbm) (I1.kIn _ _ hC) (PySem.W.looks_findIn I1.kIn T.iC) (fun self => PySem.W.bind_fn I1.kIn self T.tI)
      (codeAny_mono (F1.run _ X.stack _ _ ⟨[Value.ref (hp.objs.size + 1)], [(vVal, u)]⟩ [Value.ref (hp.objs.size + 1), u] [.ref (hp.objs.size + 1), v] _ (fun _ _ _ => False) ((hr.mono (j := 1 + 1) hk).make C [] [(vVal, u)]) (I2.env0.make C [] [(vVal, u)]) (hbk _ _ _) (.cons rfl (.cons rv .nil)) hq) fun r s' hq' => ?_))
    cases r with
    | error er => exact (pass0 : Passes CX0 X _) pins σ _ _ er s' I2 hq'
    | ok fl =>
      cases fl with
      | ret u' =>
        obtain ⟨v', H2, os2, bare2, un2, hok2, rv', ev, d, fs, ea, ed, hd1, q2⟩ := hq'
        subst ev
        obtain ⟨h2, g2, d2, t2, os'⟩ := s'
        exact ⟨rv', mk_end (raises_own T.o.exC T.o.tyC) I1 hsz kk un2 hok2 os2 bare2 ea ed hd1 q2⟩
      | next => exact False.elim hq'
      | brk => exact False.elim hq'
      | cont => exact False.elim hq'
end
end Cf

namespace Cf
open PySem PySem.Spec PyProof.Rows L2 Evl
/-! ## the bag of k75 -/
def bagL (l : Addr) (left t bl : Int) : List (Key × V) := [(.inr "great", .ref l), (.inr "left", .int left), (.inr "turn", .int t), (.inr "blend", .int bl)]
def Bag (H : Hp) (bg : Addr) (n : Nat) : Prop := ∃ (l : Addr) (gs : List Int) (left t bl : Int), H bg = some (.dK (bagL l left t bl)) ∧ H l = some (.lst (gs.map V.int)) ∧ 0 ≤ t ∧ t ≤ n ∧ 0 ≤ bl ∧ bl < 2305843009213693951 ∧ gs.length ≤ 100
theorem Bag.ex {H H' : Hp} {bg : Addr} {n : Nat} (h : Bag H bg n) (e : Ex H H') : Bag H' bg n := by
  obtain ⟨l, gs, left, t, bl, a, b, c⟩ := h
  exact ⟨l, gs, left, t, bl, e _ _ a, e _ _ b, c⟩
theorem Bag.le {H : Hp} {bg : Addr} {n k : Nat} (h : Bag H bg n) (e : n ≤ k) : Bag H bg k := by
  obtain ⟨l, gs, left, t, bl, a, b, c1, c2, c3⟩ := h
  exact ⟨l, gs, left, t, bl, a, b, c1, by omega, c3⟩
def TupK (H H' : Hp) : Prop := ∀ b xs, H b = some (.tup xs) → H' b = some (.tup xs)
theorem TupK.of {H H' : Hp} (e : Ex H H') : TupK H H' := fun b xs h => e _ _ h
theorem TupK.trans {H H1 H2 : Hp} (a : TupK H H1) (b : TupK H1 H2) : TupK H H2 := fun c xs h => b c xs (a c xs h)
theorem TupK.upd {H : Hp} {p : Addr} {o u : HO} (h : H p = some u) (n : ∀ xs, u ≠ .tup xs) : TupK H (upd H p o) := fun b xs q => by
  rw [upd_ne (fun z => by rw [z, h] at q; exact n xs (Option.some.inj q))]
  exact q
def spBag (K : PySem.W.Frag) : Sp := fun vs H Q _ => ∃ (a : Addr) (ns : List Int), vs = [.ref a] ∧ SqL K H a (ns.map V.int) ∧ ns.length ≤ 63 ∧ ∀ bg H', H bg = none → Ex H H' → Bag H' bg 0 → Q (.ref bg) H'
def spBDraw : Sp := fun vs H Q _ => ∃ bg many n, vs = [.ref bg, .int many] ∧ 0 < many ∧ many.natAbs < 2 ^ 200 ∧ n ≤ 1000 ∧ Bag H bg n ∧ ∀ H' v, TupK H H' → Bag H' bg (n + 1) → 0 ≤ v → v < many → Q (.int v) H'
theorem ev_dgetK {σ : L2.St} {H : Hp} {ta : TE} {bg : Addr} {kvs : List (Key × V)} {k : Str} {v : V} (ha : Ev ta σ H (.ref bg)) (h : H bg = some (.dK kvs)) (hv : valV kvs (.inr k) = some v) : Ev (tDGet ta (tC (.str k))) σ H v := fun H1 e Q q =>
  ha H1 e _ fun H2 e2 => ⟨bg, v, rfl, by
    have g := DGet.k (k := .inr k) (e2 _ _ (e _ _ h))
    rw [hv] at g
    exact g, q H2 e2⟩
theorem s_dputK {σ : L2.St} {H : Hp} {ta tv : TE} {D : Ends} {bg : Addr} {kvs : List (Key × V)} {k : Str} {v : V} (hv : Ev tv σ H v) (ho : Ev ta σ H (.ref bg)) (h : H bg = some (.dK kvs)) (hl : kvs.length < 100000) (n : ∀ H1, Ex H H1 → D.nx σ (upd H1 bg (.dK (putK kvs (.inr k) v)))) : sDPut ta (tC (.str k)) tv D σ H :=
  hv H (Ex.refl H) _ fun H1 e1 => ho H1 e1 _ fun H2 e2 => ⟨bg, _, rfl, DPut.k (k := .inr k) (e2 _ _ (e1 _ _ h)) (sz_lt hl), n H2 (e1.trans e2)⟩
theorem q_dputK {σ : L2.St} {H : Hp} {ta tv : TE} {tz : TS} {D : Ends} {bg : Addr} {kvs : List (Key × V)} {k : Str} {v : V} (hv : Ev tv σ H v) (ho : Ev ta σ H (.ref bg)) (h : H bg = some (.dK kvs)) (hl : kvs.length < 100000) (n : ∀ H1, Ex H H1 → tz D σ (upd H1 bg (.dK (putK kvs (.inr k) v)))) : tSeq (sDPut ta (tC (.str k)) tv) tz D σ H :=
  s_dputK (D := { D with nx := tz D }) hv ho h hl n
end Cf
namespace Cf
open PySem PySem.Spec PyProof.Rows L2 Evl
def rAbs_ : List V → Hp → VK → Prop := fun xs H Q => ∃ i, xs = [.int i] ∧ Q (.int (if i < 0 then -i else i)) H
end Cf
namespace Cf
open PySem PySem.Spec PyProof.Rows L2 Evl
/-! ## exceptions made -/
def tMz (C : Addr) (ta : TA) : TE := fun σ H Q => ta σ H fun vs H1 => ∃ v, vs = [v] ∧ Out C v H1 fun cls d H' => ∀ a, H' a = none → Q (.ref a) (upd H' a (exk a cls d))
section
variable {X : Cx} {x : Str} {C : Addr} {e : Expr} {ta : TA} {p pos : Pos} {kws : List Keyword} {tk : TA}
theorem pe_mz {k : Nat} (T : XiK X.prog X.w X.K X.mg X.base x C) (hr : Room k X.A) (ha : PA X [e] ta) (hg : Gl X x) (hk : 2 ≤ k := by decide) (hdb : (x == ("__debug__" : Str)) = false := by decide)
    (he : starEach (e :: []) X.env = (false, eval e X.env) :: starEach [] X.env := by rfl) (hpl : (backTo pos (starEach [] X.env)).any (·.1) = false := by rfl) : PE X (.Call (.Name x p) [e] [] pos) (tMz C ta) :=
  pe_made (pmk_z T.xi hr ha hg hk hdb he hpl)
theorem pe_mzK {k : Nat} (T : XiK X.prog X.w X.K X.mg X.base x C) (hr : Room k X.A) (hkw : PK X kws tk) (hg : Gl X x) (hk : 2 ≤ k := by decide)
    (hall : (backToKw pos (keywordEach kws X.env)).all (·.1.isSome) = true := by rfl)
    (hks : (backToKw pos (keywordEach kws X.env)).filterMap (·.1) = [vVal] := by rfl) (hdb : (x == ("__debug__" : Str)) = false := by decide)
    (hpl : ((backTo pos (starEach [] X.env)).any (·.1) || (backToKw pos (keywordEach kws X.env)).any (·.1.isNone)) = false := by rfl) : PE X (.Call (.Name x p) [] kws pos) (tMz C tk) :=
  pe_made (pmk_zK T hr hkw hg hk hall hks hdb hpl)
end
/-- a new exception of the class C with v -/
def EvX (te : TE) (σ : L2.St) (H : Hp) (C : Addr) (v : V) : Prop := ∀ H1, Ex H H1 → ∀ Q : VK, (∀ p H2, H1 p = none → Ex H1 H2 → ExAt H2 p C v → Q (.ref p) H2) → te σ H1 Q
theorem ev_mz {σ : L2.St} {H : Hp} {te : TE} {C : Addr} {v : V} (h : Ev te σ H v) : EvX (tMz C (tCons te tNil)) σ H C v := fun H1 e Q q => h H1 e _ fun H2 e2 => ⟨v, rfl, fun d H3 nd e3 hd a na => by
  have nda : d ≠ a := fun z => by rw [z, na] at hd; exact nomatch hd
  exact q a _ (fresh_back (e2.trans e3) na) ((e2.trans e3).trans (Ex.new na)) ⟨d, upd_same, by rw [upd_ne nda]; exact hd⟩⟩
/-- (X(v), X(value=v)) -/
def PairAt (H : Hp) (p C : Addr) (v : V) : Prop := ∃ a b, H p = some (.tup [.ref a, .ref b]) ∧ ExAt H a C v ∧ ExAt H b C v
theorem PairAt.ex {H H' : Hp} {p C : Addr} {v : V} (h : PairAt H p C v) (e : Ex H H') : PairAt H' p C v := by
  obtain ⟨a, b, h1, h2, h3⟩ := h
  exact ⟨a, b, e _ _ h1, h2.ex e, h3.ex e⟩
theorem PairAt.bu {H H' : Hp} {p C l : Addr} {v : V} {xs : List V} (h : PairAt H p C v) (hl : H l = some (.lst xs)) (e : Bu l H H') : PairAt H' p C v := by
  obtain ⟨a, b, h1, h2, h3⟩ := h
  exact ⟨a, b, e _ _ (ne_of h1 hl fun z => nomatch z) h1, h2.bu hl e, h3.bu hl e⟩
theorem eu_pair {σ : L2.St} {H : Hp} {ta tb : TE} {C : Addr} {v : V} (ha : EvX ta σ H C v) (hb : EvX tb σ H C v) : ∀ H1, Ex H H1 → ∀ Q : VK, (∀ p H2, H1 p = none → Ex H1 H2 → PairAt H2 p C v → Q (.ref p) H2) → tTup (tCons ta (tCons tb tNil)) σ H1 Q := fun H1 e Q q =>
  ha H1 e _ fun a H2 na e2 h2 => hb H2 (e.trans e2) _ fun b H3 nb e3 h3 => ⟨by show 2 ≤ sizeLine; decide, fun p np => q p _ (fresh_back (e2.trans e3) np) ((e2.trans e3).trans (Ex.new np)) ⟨a, b, upd_same, (h2.ex e3).ex (Ex.new np), h3.ex (Ex.new np)⟩⟩
/-- the list of the pairs so far -/
def Mad (H : Hp) (l : Addr) (cs : List Addr) (v : V) : Prop := ∃ ps : List Addr, H l = some (.lst (ps.map V.ref)) ∧ ps.length = cs.length ∧ ∀ (j : Nat) (c : Addr), cs[j]? = some c → ∃ p, ps[j]? = some p ∧ PairAt H p c v
theorem Mad.ex {H H' : Hp} {l : Addr} {cs : List Addr} {v : V} (h : Mad H l cs v) (e : Ex H H') : Mad H' l cs v := by
  obtain ⟨ps, a, b, c⟩ := h
  refine ⟨ps, e _ _ a, b, fun j cc q => ?_⟩
  obtain ⟨p, p1, p2⟩ := c j cc q
  exact ⟨p, p1, p2.ex e⟩
theorem q_mad {K : PySem.W.Frag} {σ : L2.St} {H : Hp} {l C : Addr} {cs : List Addr} {v : V} {i : Nat} {ta tb : TE} {tz : TS} {D : Ends} (h : Mad H l cs v) (hi : σ[i]? = some (some (.ref l))) (hd : cs.length < 100000) (ha : EvX ta σ H C v) (hb : EvX tb σ H C v)
    (k : ∀ H', Bu l H H' → Mad H' l (cs ++ [C]) v → tz D σ H') : tSeq (tDrop (tBM K "list" rAppend (tVar i) (tCons (tTup (tCons ta (tCons tb tNil))) tNil))) tz D σ H := by
  obtain ⟨ps, h1, h2, h3⟩ := h
  refine drop_raw (app_raw (K := K) hi h1 ?_)
  refine eu_pair ha hb H (Ex.refl H) _ fun p H1 np e1 hp => ⟨l, ps.map V.ref, .ref p, rfl, rfl, e1 _ _ h1, sz_lt (by rw [List.length_map]; omega), ?_⟩
  have hl1 := e1 _ _ h1
  have bu : Bu l H (upd H1 l (.lst (ps.map V.ref ++ [.ref p]))) := fun c o nc q => by rw [upd_ne nc]; exact e1 _ _ q
  have bu1 : Bu l H1 (upd H1 l (.lst (ps.map V.ref ++ [.ref p]))) := fun c o nc q => by rw [upd_ne nc]; exact q
  refine k _ bu ⟨ps ++ [p], by rw [upd_same, List.map_append]; rfl, by rw [List.length_append, List.length_append, h2]; rfl, fun j cc q => ?_⟩
  by_cases hj : j < cs.length
  · rw [List.getElem?_append_left hj] at q
    obtain ⟨p2, q1, q2⟩ := h3 j cc q
    exact ⟨p2, by rw [List.getElem?_append_left (by omega)]; exact q1, q2.bu h1 bu⟩
  · rw [List.getElem?_append_right (by omega)] at q
    have hj2 : j - cs.length = 0 := by
      have := (List.getElem?_eq_some_iff.mp q).1
      simp at this
      omega
    rw [hj2] at q
    have q : C = cc := Option.some.inj q
    subst q
    exact ⟨p, by rw [List.getElem?_append_right (by omega), h2, hj2]; rfl, hp.bu hl1 bu1⟩
def spMade (cs : List Addr) : Sp := fun vs H Q _ => ∃ v, vs = [v] ∧ ∀ l H', H l = none → Ex H H' → Mad H' l cs v → Q (.ref l) H'
end Cf

namespace Cf
open PySem PySem.Spec PyProof.Rows L2 Evl
def ExE (H : Hp) (a C : Addr) : Prop := (∃ v, ExAt H a C v) ∨ H a = some (ExO (.ref C) a)
theorem ExE.ex {H H' : Hp} {a C : Addr} (h : ExE H a C) (e : Ex H H') : ExE H' a C := by
  rcases h with ⟨v, h⟩ | h
  · exact .inl ⟨v, h.ex e⟩
  · exact .inr (e _ _ h)
def rIsE2 (K : PySem.W.Frag) : List V → Hp → VK → Prop := fun xs H Q => ∃ (a D : Addr) (c : V) (cv : Value) (b : Bool), xs = [.ref a, c] ∧ ExE H a D ∧ ExcC K D ∧ (∀ u, RelV c u → u = cv) ∧ PySem.W.kitOne K (.ref D) cv = some b ∧ Q (.bl b) H
theorem call_isE2 {X : Cx} : CallR X (.builtin "isinstance") (rIsE2 X.K) := by
  intro pins s σ H xs us Q I r h
  obtain ⟨a, D, c, cv, b, rfl, hE, C, hcv, e, q⟩ := h
  rcases hE with ⟨v, dd, ea, ed⟩ | ea
  · exact call_isK pins s σ H _ us Q I r ⟨a, D, dd, _, c, cv, b, rfl, ea, ed, C, hcv, e, q⟩
  · cases r with
    | cons rx rr =>
      cases rr with
      | cons rt rr =>
        cases rr
        cases rx
        have ec := hcv _ rt
        subst ec
        obtain ⟨⟨oe, vs, ha, hz, hd, _⟩, _, _⟩ := I.hok a _ ea
        have J : PySem.W.InstAt s.heap a oe D none := ⟨ha, hz.1, by unfold PySem.W.notCls; rw [hd] <;> rfl, by rw [hz.2]; trivial⟩
        have hcl : (PySem.W.clsIn X.K D).isSome = true := by
          have := C.hd
          unfold PySem.W.hasDictIn at this
          cases q2 : PySem.W.clsIn X.K D with
          | none => rw [q2] at this; exact absurd this (by decide)
          | some _ => rfl
        exact PySem.W.kia_one (PySem.W.kitx_exc hcl C.hg C.hk C.hs C.ha C.hn C.ht C.hm) I.kIn J e (fun z => nomatch z) fun tk => ⟨.bl b, H, I.kept (t' := tk) fun _ _ z => z, rfl, q⟩
section
variable {K : PySem.W.Frag} {σ : L2.St} {H : Hp} {ta : TE} {a C c : Addr} {v : V} {b : Bool}
theorem ev_isE2 (ha : Ev ta σ H (.ref a)) (h : ExE H a C) (e : ExcC K C) (k : PySem.W.kitOne K (.ref C) (.ref c) = some b) : Ev (tCB (rIsE2 K) (tCons ta (tCons (tC (.ref c)) tNil))) σ H (.bl b) := ev_cb (ea_cons ha (ea_cons ev_c ea_nil)) fun H1 e1 Q1 q1 =>
  ⟨a, C, .ref c, .ref c, b, rfl, h.ex e1, e, fun u r => r, k, q1 H1 (Ex.refl H1)⟩
theorem ev_isE2T {n : String} (ha : Ev ta σ H (.ref a)) (h : ExE H a C) (e : ExcC K C) (k : PySem.W.kitOne K (.ref C) (.type n) = some b) : Ev (tCB (rIsE2 K) (tCons ta (tCons (tC (.ty n)) tNil))) σ H (.bl b) := ev_cb (ea_cons ha (ea_cons ev_c ea_nil)) fun H1 e1 Q1 q1 =>
  ⟨a, C, .ty n, .type n, b, rfl, h.ex e1, e, fun u r => r, k, q1 H1 (Ex.refl H1)⟩
end
def ind9 (j : Nat) : List V := (List.range 9).map fun i => V.bl (decide (V.int (i : Nat) = V.int (j : Nat)))
/-- the nine classes: what is known of them -/
structure Er10 (K : PySem.W.Frag) (mg : Str → Option Value) (c0 c1 c2 c3 c4 c5 c6 c7 c8 cE : Addr) : Prop where
  g0 : mg "InvalidModel" = some (.ref c0)
  g1 : mg "InvalidType" = some (.ref c1)
  g2 : mg "InvalidVariables" = some (.ref c2)
  g3 : mg "InvalidExpression" = some (.ref c3)
  g4 : mg "InvalidValues" = some (.ref c4)
  g5 : mg "InvalidNumber" = some (.ref c5)
  g6 : mg "NotAdmitted" = some (.ref c6)
  g7 : mg "NothingToUndo" = some (.ref c7)
  g8 : mg "Unreadable" = some (.ref c8)
  gE : mg "CastError" = some (.ref cE)
  f0 : IsF K c0 c0 c1 c2 c3 c4 c5 c6 c7 c8 true false false false false false false false false
  f1 : IsF K c1 c0 c1 c2 c3 c4 c5 c6 c7 c8 false true false false false false false false false
  f2 : IsF K c2 c0 c1 c2 c3 c4 c5 c6 c7 c8 false false true false false false false false false
  f3 : IsF K c3 c0 c1 c2 c3 c4 c5 c6 c7 c8 false false false true false false false false false
  f4 : IsF K c4 c0 c1 c2 c3 c4 c5 c6 c7 c8 false false false false true false false false false
  f5 : IsF K c5 c0 c1 c2 c3 c4 c5 c6 c7 c8 false false false false false true false false false
  f6 : IsF K c6 c0 c1 c2 c3 c4 c5 c6 c7 c8 false false false false false false true false false
  f7 : IsF K c7 c0 c1 c2 c3 c4 c5 c6 c7 c8 false false false false false false false true false
  f8 : IsF K c8 c0 c1 c2 c3 c4 c5 c6 c7 c8 false false false false false false false false true
  fE : IsF K cE c0 c1 c2 c3 c4 c5 c6 c7 c8 false false false false false false false false false
  e0 : PySem.W.kitOne K (.ref c0) (.ref cE) = some true
  e1 : PySem.W.kitOne K (.ref c1) (.ref cE) = some true
  e2 : PySem.W.kitOne K (.ref c2) (.ref cE) = some true
  e3 : PySem.W.kitOne K (.ref c3) (.ref cE) = some true
  e4 : PySem.W.kitOne K (.ref c4) (.ref cE) = some true
  e5 : PySem.W.kitOne K (.ref c5) (.ref cE) = some true
  e6 : PySem.W.kitOne K (.ref c6) (.ref cE) = some true
  e7 : PySem.W.kitOne K (.ref c7) (.ref cE) = some true
  e8 : PySem.W.kitOne K (.ref c8) (.ref cE) = some true
def spFlags (K : PySem.W.Frag) (c0 c1 c2 c3 c4 c5 c6 c7 c8 : Addr) : Sp := fun vs H Q _ => ∃ a C b0 b1 b2 b3 b4 b5 b6 b7 b8, vs = [.ref a] ∧ ExE H a C ∧ IsF K C c0 c1 c2 c3 c4 c5 c6 c7 c8 b0 b1 b2 b3 b4 b5 b6 b7 b8 ∧
  ∀ l H', H l = none → Ex H H' → H' l = some (.lst [.bl b0, .bl b1, .bl b2, .bl b3, .bl b4, .bl b5, .bl b6, .bl b7, .bl b8]) → Q (.ref l) H'
/-! ### repr of any small datum -/
def rReprA (K : PySem.W.Frag) : List V → Hp → VK → Prop := fun xs H Q => rRepr K xs H Q ∨ (xs = [.non] ∧ Q (.str "None") H) ∨ (∃ i, xs = [.int i] ∧ i.natAbs.log2 < 1920 ∧ Q (.str (toString i)) H) ∨ ∃ x, xs = [.str x] ∧ (reprText x).length ≤ sizeLine ∧ Q (.str (reprText x)) H
theorem call_reprA {X : Cx} (hG : X.A.guards = some []) (hu : X.A.units + 64 < cLine) : CallR X (.builtin "repr") (rReprA X.K) := by
  intro pins s σ H xs us Q I r h
  rcases h with h | ⟨rfl, q⟩ | ⟨i, rfl, hi, q⟩ | ⟨x, rfl, hx, q⟩
  · exact call_repr hG hu pins s σ H xs us Q I r h
  · obtain ⟨u, rfl, rx⟩ := vals1 r
    obtain rfl : u = Value.none := rx
    exact PySem.P.repr_of_none ⟨.str "None", H, I.tok _, ⟨_, rfl⟩, q⟩
  · obtain ⟨u, rfl, rx⟩ := vals1 r
    obtain ⟨t, rfl⟩ : ∃ t, u = Value.int i t := rx
    exact PySem.P.repr_of_int hi ⟨.str (toString i), H, I.tok _, ⟨_, rfl⟩, q⟩
  · obtain ⟨u, rfl, rx⟩ := vals1 r
    obtain ⟨t, rfl⟩ : ∃ t, u = Value.str x t := rx
    exact PySem.P.repr_of_str ⟨.str (reprText x), H, I.tok _, ⟨_, rfl⟩, q⟩ hx
def Rb (K : PySem.W.Frag) (H : Hp) (v : V) (t : Str) : Prop := (∃ a d, v = .ref a ∧ Dp K H (.ref a) d ∧ Sm d ∧ szD d ≤ 800 ∧ d.depth ≤ 60 ∧ t = d.shown) ∨ (v = .non ∧ t = "None") ∨ (∃ i, v = .int i ∧ i.natAbs.log2 < 1920 ∧ t = toString i) ∨ ∃ x, v = .str x ∧ (reprText x).length ≤ sizeLine ∧ t = reprText x
theorem Rb.ex {K : PySem.W.Frag} {H H' : Hp} {v : V} {t : Str} (h : Rb K H v t) (e : Ex H H') : Rb K H' v t := by
  rcases h with ⟨a, d, h1, h2, h3⟩ | h
  · exact .inl ⟨a, d, h1, dp_ex e d _ h2, h3⟩
  · exact .inr h
theorem ev_reprA {K : PySem.W.Frag} {σ : L2.St} {H : Hp} {ta : TE} {v : V} {t : Str} (ha : Ev ta σ H v) (h : Rb K H v t) : Ev (tCB (rReprA K) (tCons ta tNil)) σ H (.str t) := ev_cb (ea_cons ha ea_nil) fun H1 e1 Q q => by
  rcases h.ex e1 with ⟨a, d, rfl, h2, h3, h4, h5, rfl⟩ | ⟨rfl, rfl⟩ | ⟨i, rfl, hi, rfl⟩ | ⟨x, rfl, hx, rfl⟩
  · exact .inl ⟨a, d, rfl, h2, (sm_all d h3).1, (sm_all d h3).2.1, sm_len h3 h4, h5, q H1 (Ex.refl H1)⟩
  · exact .inr (.inl ⟨rfl, q H1 (Ex.refl H1)⟩)
  · exact .inr (.inr (.inl ⟨i, rfl, hi, q H1 (Ex.refl H1)⟩))
  · exact .inr (.inr (.inr ⟨x, rfl, hx, q H1 (Ex.refl H1)⟩))
theorem bdraw_at {σ : L2.St} {H : Hp} {ta : TA} {bg : Addr} {many : Int} {n : Nat} {E : XK} {Q : VK} (h : EvA ta σ H [.ref bg, .int many]) (m0 : 0 < many) (m1 : many.natAbs < 2 ^ 200) (hn : n ≤ 1000) (g : Bag H bg n)
    (k : ∀ H' v, TupK H H' → Bag H' bg (n + 1) → 0 ≤ v → v < many → Q (.int v) H') : tCall spBDraw [] E ta σ H Q :=
  h H (Ex.refl H) _ fun H1 e1 => ⟨bg, many, n, rfl, m0, m1, hn, g.ex e1, fun H' v t b v0 v1 => k H' v ((TupK.of e1).trans t) b v0 v1⟩
/-- lists of bools compared -/
theorem ev_neB {K : PySem.W.Frag} {σ : L2.St} {H : Hp} {ta tb : TE} {bs : List Bool} (ha : EvL ta σ H (bs.map V.bl)) (hb : EvL tb σ H (bs.map V.bl)) (hs : SeqAt.shaped (.list (bs.map PyData.bool)) = true) (he : PyData.eqv (.list (bs.map PyData.bool)) (.list (bs.map PyData.bool)) = true) : Ev (tOp (rNeD K) ta tb) σ H (.bl false) := by
  have dp : ∀ (bs : List Bool) (H1 : Hp), DpAll K H1 (bs.map V.bl) (bs.map PyData.bool) := fun bs H1 => by
    induction bs with
    | nil => exact .nil
    | cons b bs ih => exact .cons (.bl b) ih
  exact ev_neL (ds := bs.map PyData.bool) ha hb (fun H1 _ => dp bs H1) (fun H1 _ => dp bs H1) hs he
theorem ev_eqB {K : PySem.W.Frag} {σ : L2.St} {H : Hp} {ta tb : TE} {bs : List Bool} (ha : EvL ta σ H (bs.map V.bl)) (hb : EvL tb σ H (bs.map V.bl)) (hs : SeqAt.shaped (.list (bs.map PyData.bool)) = true) (he : PyData.eqv (.list (bs.map PyData.bool)) (.list (bs.map PyData.bool)) = true) : Ev (tOp (rEqD K) ta tb) σ H (.bl true) := by
  have dp : ∀ (bs : List Bool) (H1 : Hp), DpAll K H1 (bs.map V.bl) (bs.map PyData.bool) := fun bs H1 => by
    induction bs with
    | nil => exact .nil
    | cons b bs ih => exact .cons (.bl b) ih
  exact ev_opLL ha hb fun p q H1 hp hq e => fun H2 e2 Q k => ⟨.list (bs.map PyData.bool), .list (bs.map PyData.bool), .lst (sq_of (e2 _ _ hp)) (dp bs H2), .lst (sq_of (e2 _ _ hq)) (dp bs H2), hs, hs, by rw [he]; exact k H2 (Ex.refl H2)⟩
end Cf

namespace Cf
open PySem PySem.Spec PyProof.Rows L2 Evl
/-! ## expressions and conditions, plainly -/
inductive Bo where
  | add | sub | mul
  deriving DecidableEq
def Bo.s : Bo → Str
  | .add => "add" | .sub => "sub" | .mul => "mul"
inductive Nd where
  | var (x : Str)
  | lit (n : Int) (s : Str)
  | cast (k : Kd) (e : Nd)
  | neg (e : Nd)
  | bin (o : Bo) (e f : Nd)
  | sh (left : Bool) (e : Nd) (k : Int)
  | ite (c e f : Nd)
  | cmp (less : Bool) (e f : Nd)
  | nt (c : Nd)
  | lg (and_ : Bool) (c d : Nd)
def shS (b : Bool) : Str := if b then "shl" else "shr"
def cmpS (b : Bool) : Str := if b then "less" else "most"
def lgS (b : Bool) : Str := if b then "and" else "or"
def Nd.word : Nd → Str
  | .var _ => "var" | .lit _ _ => "lit" | .cast _ _ => "cast" | .neg _ => "neg" | .bin o _ _ => o.s | .sh b _ _ => shS b | .ite _ _ _ => "if" | .cmp b _ _ => cmpS b | .nt _ => "not" | .lg b _ _ => lgS b
def Nd.parts : Nd → List Nd
  | .var _ => [] | .lit _ _ => [] | .cast _ e => [e] | .neg e => [e] | .bin _ e f => [e, f] | .sh _ e _ => [e] | .ite c e f => [c, e, f] | .cmp _ e f => [e, f] | .nt c => [c] | .lg _ c d => [c, d]
def Nd.size : Nd → Nat
  | .var _ => 1 | .lit _ _ => 1 | .cast _ e => 1 + e.size | .neg e => 1 + e.size | .bin _ e f => 1 + e.size + f.size | .sh _ e _ => 1 + e.size | .ite c e f => 1 + c.size + e.size + f.size | .cmp _ e f => 1 + e.size + f.size | .nt c => 1 + c.size | .lg _ c d => 1 + c.size + d.size
def Nd.leaves : Nd → Nat
  | .var _ => 1 | .lit _ _ => 1 | .cast _ e => e.leaves | .neg e => e.leaves | .bin _ e f => e.leaves + f.leaves | .sh _ e _ => e.leaves | .ite c e f => c.leaves + e.leaves + f.leaves | .cmp _ e f => e.leaves + f.leaves | .nt c => c.leaves | .lg _ c d => c.leaves + d.leaves
/-- an expression, not a condition -/
def Nd.isE : Nd → Bool
  | .cmp _ _ _ => false | .nt _ => false | .lg _ _ _ => false | _ => true
/-- it stands at p, tuples of tuples -/
def TreeAt (H : Hp) : Addr → Nd → Prop
  | p, .var x => H p = some (.tup [.str "var", .str x])
  | p, .lit n s => H p = some (.tup [.str "lit", .int n, .str s])
  | p, .cast k e => ∃ q, H p = some (.tup [.str "cast", k.v, .ref q]) ∧ TreeAt H q e
  | p, .neg e => ∃ q, H p = some (.tup [.str "neg", .ref q]) ∧ TreeAt H q e
  | p, .bin o e f => ∃ q r, H p = some (.tup [.str o.s, .ref q, .ref r]) ∧ TreeAt H q e ∧ TreeAt H r f
  | p, .sh b e k => ∃ q, H p = some (.tup [.str (shS b), .ref q, .int k]) ∧ TreeAt H q e
  | p, .ite c e f => ∃ o q r, H p = some (.tup [.str "if", .ref o, .ref q, .ref r]) ∧ TreeAt H o c ∧ TreeAt H q e ∧ TreeAt H r f
  | p, .cmp b e f => ∃ q r, H p = some (.tup [.str (cmpS b), .ref q, .ref r]) ∧ TreeAt H q e ∧ TreeAt H r f
  | p, .nt c => ∃ q, H p = some (.tup [.str "not", .ref q]) ∧ TreeAt H q c
  | p, .lg b c d => ∃ q r, H p = some (.tup [.str (lgS b), .ref q, .ref r]) ∧ TreeAt H q c ∧ TreeAt H r d
theorem TreeAt.tk {H H' : Hp} (e : TupK H H') : ∀ {nd : Nd} {p : Addr}, TreeAt H p nd → TreeAt H' p nd
  | .var _, _, h => e _ _ h
  | .lit _ _, _, h => e _ _ h
  | .cast _ _, _, ⟨q, h, t⟩ => ⟨q, e _ _ h, t.tk e⟩
  | .neg _, _, ⟨q, h, t⟩ => ⟨q, e _ _ h, t.tk e⟩
  | .bin _ _ _, _, ⟨q, r, h, t, u⟩ => ⟨q, r, e _ _ h, t.tk e, u.tk e⟩
  | .sh _ _ _, _, ⟨q, h, t⟩ => ⟨q, e _ _ h, t.tk e⟩
  | .ite _ _ _, _, ⟨o, q, r, h, s, t, u⟩ => ⟨o, q, r, e _ _ h, s.tk e, t.tk e, u.tk e⟩
  | .cmp _ _ _, _, ⟨q, r, h, t, u⟩ => ⟨q, r, e _ _ h, t.tk e, u.tk e⟩
  | .nt _, _, ⟨q, h, t⟩ => ⟨q, e _ _ h, t.tk e⟩
  | .lg _ _ _, _, ⟨q, r, h, t, u⟩ => ⟨q, r, e _ _ h, t.tk e, u.tk e⟩
theorem TreeAt.ex {H H' : Hp} {nd : Nd} {p : Addr} (h : TreeAt H p nd) (e : Ex H H') : TreeAt H' p nd := h.tk (TupK.of e)
theorem TupK.bu {H H' : Hp} {r : Addr} {n : Nat} (e : Bu r H H') (g : Rng H r n) : TupK H H' := fun b xs h => e _ _ (g.ne_tup h) h
/-- its datum -/
def Nd.dat : Nd → PyData
  | .var x => .tuple [.str "var", .str x]
  | .lit n s => .tuple [.str "lit", .int n, .str s]
  | .cast k e => .tuple [.str "cast", .str k.s, e.dat]
  | .neg e => .tuple [.str "neg", e.dat]
  | .bin o e f => .tuple [.str o.s, e.dat, f.dat]
  | .sh b e k => .tuple [.str (shS b), e.dat, .int k]
  | .ite c e f => .tuple [.str "if", c.dat, e.dat, f.dat]
  | .cmp b e f => .tuple [.str (cmpS b), e.dat, f.dat]
  | .nt c => .tuple [.str "not", c.dat]
  | .lg b c d => .tuple [.str (lgS b), c.dat, d.dat]
theorem TreeAt.dp {K : PySem.W.Frag} {H : Hp} : ∀ {nd : Nd} {p : Addr}, TreeAt H p nd → Dp K H (.ref p) nd.dat
  | .var _, _, h => .tup (st_of h) (.cons (.str _) (.cons (.str _) .nil))
  | .lit _ _, _, h => .tup (st_of h) (.cons (.str _) (.cons (.int _) (.cons (.str _) .nil)))
  | .cast _ _, _, ⟨q, h, t⟩ => .tup (st_of h) (.cons (.str _) (.cons (.str _) (.cons t.dp .nil)))
  | .neg _, _, ⟨q, h, t⟩ => .tup (st_of h) (.cons (.str _) (.cons t.dp .nil))
  | .bin _ _ _, _, ⟨q, r, h, t, u⟩ => .tup (st_of h) (.cons (.str _) (.cons t.dp (.cons u.dp .nil)))
  | .sh _ _ _, _, ⟨q, h, t⟩ => .tup (st_of h) (.cons (.str _) (.cons t.dp (.cons (.int _) .nil)))
  | .ite _ _ _, _, ⟨o, q, r, h, s, t, u⟩ => .tup (st_of h) (.cons (.str _) (.cons s.dp (.cons t.dp (.cons u.dp .nil))))
  | .cmp _ _ _, _, ⟨q, r, h, t, u⟩ => .tup (st_of h) (.cons (.str _) (.cons t.dp (.cons u.dp .nil)))
  | .nt _, _, ⟨q, h, t⟩ => .tup (st_of h) (.cons (.str _) (.cons t.dp .nil))
  | .lg _ _ _, _, ⟨q, r, h, t, u⟩ => .tup (st_of h) (.cons (.str _) (.cons t.dp (.cons u.dp .nil)))
/-- the parts stand at these places -/
def PartsAt (H : Hp) : List Addr → List Nd → Prop
  | [], [] => True
  | q :: qs, e :: es => TreeAt H q e ∧ PartsAt H qs es
  | _, _ => False
theorem PartsAt.tk {H H' : Hp} (e : TupK H H') : ∀ {qs : List Addr} {es : List Nd}, PartsAt H qs es → PartsAt H' qs es
  | [], [], _ => trivial
  | _ :: _, _ :: _, h => ⟨h.1.tk e, PartsAt.tk e h.2⟩
  | [], _ :: _, h => h.elim
  | _ :: _, [], h => h.elim
end Cf
namespace Cf
open PySem PySem.Spec PyProof.Rows L2 Evl
/-- the node's tuple: its word, the items behind it, and where its parts stand -/
theorem TreeAt.head {H : Hp} : ∀ {nd : Nd} {p : Addr}, TreeAt H p nd → ∃ rest, H p = some (.tup (.str nd.word :: rest))
  | .var _, _, h => ⟨_, h⟩
  | .lit _ _, _, h => ⟨_, h⟩
  | .cast _ _, _, ⟨_, h, _⟩ => ⟨_, h⟩
  | .neg _, _, ⟨_, h, _⟩ => ⟨_, h⟩
  | .bin _ _ _, _, ⟨_, _, h, _⟩ => ⟨_, h⟩
  | .sh _ _ _, _, ⟨_, h, _⟩ => ⟨_, h⟩
  | .ite _ _ _, _, ⟨_, _, _, h, _⟩ => ⟨_, h⟩
  | .cmp _ _ _, _, ⟨_, _, h, _⟩ => ⟨_, h⟩
  | .nt _, _, ⟨_, h, _⟩ => ⟨_, h⟩
  | .lg _ _ _, _, ⟨_, _, h, _⟩ => ⟨_, h⟩
/-- the law's way to the parts: none; the item at 1 or 2; all behind the word -/
theorem TreeAt.way {H : Hp} : ∀ {nd : Nd} {p : Addr}, TreeAt H p nd →
    (inV (.str nd.word) [.str "var", .str "lit"] = true ∧ nd.parts = []) ∨
    (inV (.str nd.word) [.str "var", .str "lit"] = false ∧ inV (.str nd.word) [.str "cast", .str "shl", .str "shr"] = true ∧ ∃ xs q e, H p = some (.tup xs) ∧ xs[(if nd.word = "cast" then 1 else 0) + 1]? = some (.ref q) ∧ nd.parts = [e] ∧ TreeAt H q e) ∨
    (inV (.str nd.word) [.str "var", .str "lit"] = false ∧ inV (.str nd.word) [.str "cast", .str "shl", .str "shr"] = false ∧ ∃ qs, H p = some (.tup (.str nd.word :: qs.map V.ref)) ∧ (cutV (.str nd.word :: qs.map V.ref) (some 1) none = qs.map V.ref ∧ HT.sIx (V.str nd.word :: qs.map V.ref).length 0 (some 1) ≠ 0) ∧ PartsAt H qs nd.parts)
  | .var _, _, _ => .inl ⟨by rfl, rfl⟩
  | .lit _ _, _, _ => .inl ⟨by rfl, rfl⟩
  | .cast _ e, _, ⟨q, h, t⟩ => .inr (.inl ⟨by rfl, by rfl, _, q, e, h, rfl, rfl, t⟩)
  | .neg _, _, ⟨q, h, t⟩ => .inr (.inr ⟨by rfl, by rfl, [q], h, ⟨rfl, by simp [HT.sIx]⟩, t, trivial⟩)
  | .bin o _ _, _, ⟨q, r, h, t, u⟩ => .inr (.inr ⟨by cases o <;> rfl, by cases o <;> rfl, [q, r], h, ⟨rfl, by simp [HT.sIx]⟩, t, u, trivial⟩)
  | .sh b e _, _, ⟨q, h, t⟩ => .inr (.inl ⟨by cases b <;> rfl, by cases b <;> rfl, _, q, e, h, by cases b <;> rfl, rfl, t⟩)
  | .ite _ _ _, _, ⟨o, q, r, h, s, t, u⟩ => .inr (.inr ⟨by rfl, by rfl, [o, q, r], h, ⟨rfl, by simp [HT.sIx]⟩, s, t, u, trivial⟩)
  | .cmp b _ _, _, ⟨q, r, h, t, u⟩ => .inr (.inr ⟨by cases b <;> rfl, by cases b <;> rfl, [q, r], h, ⟨rfl, by simp [HT.sIx]⟩, t, u, trivial⟩)
  | .nt _, _, ⟨q, h, t⟩ => .inr (.inr ⟨by rfl, by rfl, [q], h, ⟨rfl, by simp [HT.sIx]⟩, t, trivial⟩)
  | .lg b _ _, _, ⟨q, r, h, t, u⟩ => .inr (.inr ⟨by cases b <;> rfl, by cases b <;> rfl, [q, r], h, ⟨rfl, by simp [HT.sIx]⟩, t, u, trivial⟩)
def spParts : Sp := fun vs H Q _ => ∃ p nd, vs = [.ref p] ∧ TreeAt H p nd ∧ ∀ l qs H', H l = none → Ex H H' → H' l = some (.lst (qs.map V.ref)) → PartsAt H' qs nd.parts → Q (.ref l) H'
end Cf
namespace Cf
open PySem PySem.Spec PyProof.Rows L2 Evl
/-! ## a def that calls itself: a promise for each depth -/
section
variable {P : Program} {w : World} {K : PySem.W.Frag} {mg : Str → Option Value} {base : Heap} {CX : CXT} {f : Addr} {fd : FuncData} {ps : List Str}
theorem FnG.never {k : Nat} {sp : Sp} (h : ∀ vs H Q E, ¬ sp vs H Q E) : FnG P w K mg base CX k f fd ps sp :=
  ⟨fun vs H Q E q => (h _ _ _ _ q).elim, fun A outer s H args us vs Q E _ _ _ _ _ q => (h _ _ _ _ q).elim⟩
theorem rec_ok {sp : Nat → Sp} {c : Nat} (h0 : ∀ vs H Q E, ¬ sp 0 vs H Q E) (hs : ∀ d, FnG P w K mg base CX (c + d) f fd ps (sp d) → FnG P w K mg base CX (c + d + 1) f fd ps (sp (d + 1))) : ∀ d, FnG P w K mg base CX (c + d) f fd ps (sp d)
  | 0 => FnG.never h0
  | d + 1 => hs d (rec_ok h0 hs d)
end
end Cf
namespace Cf
open PySem PySem.Spec PyProof.Rows L2 Evl
/-! ## variables -/
structure Row where
  name : Str
  kind : Kd
  low : Int
  high : Int
def Row.vs (w : Row) : List V := [.str w.name, w.kind.v, .int w.low, .int w.high]
def Row.Fit (w : Row) : Prop := w.low ≤ w.high ∧ w.low.natAbs < 2 ^ 130 ∧ w.high.natAbs < 2 ^ 130
def VarsAt (H : Hp) (l : Addr) (rows : List Row) : Prop := ∃ ps : List Addr, H l = some (.lst (ps.map V.ref)) ∧ ps.length = rows.length ∧ ∀ (j : Nat) (w : Row), rows[j]? = some w → ∃ p, ps[j]? = some p ∧ H p = some (.tup w.vs)
theorem VarsAt.ex {H H' : Hp} {l : Addr} {rows : List Row} (h : VarsAt H l rows) (e : Ex H H') : VarsAt H' l rows := by
  obtain ⟨ps, a, b, c⟩ := h
  refine ⟨ps, e _ _ a, b, fun j w q => ?_⟩
  obtain ⟨p, p1, p2⟩ := c j w q
  exact ⟨p, p1, e _ _ p2⟩
theorem VarsAt.bu {H H' : Hp} {l r : Addr} {n : Nat} {rows : List Row} (h : VarsAt H l rows) (nr : l ≠ r) (g : Rng H r n) (e : Bu r H H') : VarsAt H' l rows := by
  obtain ⟨ps, a, b, c⟩ := h
  refine ⟨ps, e _ _ nr a, b, fun j w q => ?_⟩
  obtain ⟨p, p1, p2⟩ := c j w q
  exact ⟨p, p1, e _ _ (g.ne_tup p2) p2⟩
theorem VarsAt.add {H : Hp} {l p : Addr} {rows : List Row} {w : Row} {ps : List Addr} (h : VarsAt H l rows) (hl : H l = some (.lst (ps.map V.ref))) (hp : H p = some (.tup w.vs)) : VarsAt (upd H l (.lst (ps.map V.ref ++ [.ref p]))) l (rows ++ [w]) := by
  obtain ⟨qs, a, b, c⟩ := h
  have e : qs = ps := by
    rw [a] at hl
    have h1 := HO.lst.inj (Option.some.inj hl)
    have inj : ∀ {xs ys : List Addr}, xs.map V.ref = ys.map V.ref → xs = ys := by
      intro xs
      induction xs with
      | nil => intro ys h; cases ys with
        | nil => rfl
        | cons y ys => exact nomatch h
      | cons x xs ih => intro ys h; cases ys with
        | nil => exact nomatch h
        | cons y ys =>
          have h1 := List.cons.inj h
          rw [V.ref.inj h1.1, ih h1.2]
    exact inj h1
  subst e
  have nt : ∀ {q : Addr} {xs : List V}, H q = some (.tup xs) → q ≠ l := fun h => ne_of h hl fun z => nomatch z
  refine ⟨qs ++ [p], by rw [upd_same, List.map_append]; rfl, by rw [List.length_append, List.length_append, b]; rfl, fun j w2 q => ?_⟩
  by_cases hj : j < rows.length
  · rw [List.getElem?_append_left hj] at q
    obtain ⟨p2, q1, q2⟩ := c j w2 q
    exact ⟨p2, by rw [List.getElem?_append_left (by omega)]; exact q1, by rw [upd_ne (nt q2)]; exact q2⟩
  · rw [List.getElem?_append_right (by omega)] at q
    have hj2 : j - rows.length = 0 := by
      have := (List.getElem?_eq_some_iff.mp q).1
      simp at this
      omega
    rw [hj2] at q
    have q : w = w2 := Option.some.inj q
    subst q
    exact ⟨p, by rw [List.getElem?_append_right (by omega), b, hj2]; rfl, by rw [upd_ne (nt hp)]; exact hp⟩
def names8 : List Str := ["x", "if", "u", "lit", "abcdefgh", "add", "ul", "less"]
def spGiven : Sp := fun vs H Q _ => ∃ r many top n, vs = [.ref r, .int (many : Nat), .int top] ∧ many ≤ 8 ∧ 0 ≤ top ∧ top < 2 ^ 120 ∧ n < 2 ^ 40 ∧ Rng H r n ∧
  ∀ l rows H', Bu r H H' → Rng H' r (n + 40) → H l = none → l ≠ r → VarsAt H' l rows → rows.map Row.name = names8.take many → (∀ w ∈ rows, w.Fit) → Q (.ref l) H'
end Cf

namespace Cf
open PySem PySem.Spec PyProof.Rows L2 Evl
/-! ## well formed expressions, their variables -/
def sufs : List Str := ["", "u", "l", "ul", "w", "uw"]
def Nd.wf : Nd → Prop
  | .var _ => True
  | .lit n s => 0 ≤ n ∧ n < 2 ^ 130 ∧ s ∈ sufs
  | .cast _ e => e.isE = true ∧ e.wf
  | .neg e => e.isE = true ∧ e.wf
  | .bin _ e f => e.isE = true ∧ f.isE = true ∧ e.wf ∧ f.wf
  | .sh _ e k => e.isE = true ∧ e.wf ∧ 0 ≤ k ∧ k < 1000
  | .ite c e f => c.isE = false ∧ e.isE = true ∧ f.isE = true ∧ c.wf ∧ e.wf ∧ f.wf
  | .cmp _ e f => e.isE = true ∧ f.isE = true ∧ e.wf ∧ f.wf
  | .nt c => c.isE = false ∧ c.wf
  | .lg _ c d => c.isE = false ∧ d.isE = false ∧ c.wf ∧ d.wf
def Nd.vars : Nd → List Str
  | .var x => [x] | .lit _ _ => [] | .cast _ e => e.vars | .neg e => e.vars | .bin _ e f => e.vars ++ f.vars | .sh _ e _ => e.vars | .ite c e f => c.vars ++ (e.vars ++ f.vars) | .cmp _ e f => e.vars ++ f.vars | .nt c => c.vars | .lg _ c d => c.vars ++ d.vars
/-! ## what a drawing keeps: all but three lists -/
def Bs (r a b : Addr) (H H' : Hp) : Prop := ∀ q o, q ≠ r → q ≠ a → q ≠ b → H q = some o → H' q = some o
theorem Bs.refl (r a b : Addr) (H : Hp) : Bs r a b H H := fun _ _ _ _ _ h => h
theorem Bs.trans {r a b : Addr} {H H1 H2 : Hp} (x : Bs r a b H H1) (y : Bs r a b H1 H2) : Bs r a b H H2 := fun q o n1 n2 n3 h => y q o n1 n2 n3 (x q o n1 n2 n3 h)
theorem Bs.of {r a b : Addr} {H H1 : Hp} (e : Ex H H1) : Bs r a b H H1 := fun q o _ _ _ h => e q o h
theorem Bs.bu {r a b : Addr} {H H1 : Hp} (e : Bu r H H1) : Bs r a b H H1 := fun q o n _ _ h => e q o n h
/-- the draws, the free names, the literals that are left -/
structure Pool (H : Hp) (r a b : Addr) (n : Nat) (xs : List Str) (m : Nat) : Prop where
  g : Rng H r n
  f : H a = some (.lst (xs.map V.str))
  l : H b = some (.lst (List.replicate m (.int 0)))
  ar : a ≠ r
  br : b ≠ r
  ab : a ≠ b
  ok : ∀ x ∈ xs, PyData.strOk x = true
theorem Pool.ex {H H' : Hp} {r a b : Addr} {n : Nat} {xs : List Str} {m : Nat} (p : Pool H r a b n xs m) (e : Ex H H') : Pool H' r a b n xs m := ⟨p.g.ex e, e _ _ p.f, e _ _ p.l, p.ar, p.br, p.ab, p.ok⟩
theorem Pool.bu {H H' : Hp} {r a b : Addr} {n k : Nat} {xs : List Str} {m : Nat} (p : Pool H r a b n xs m) (e : Bu r H H') (g : Rng H' r k) : Pool H' r a b k xs m := ⟨g, e _ _ p.ar p.f, e _ _ p.br p.l, p.ar, p.br, p.ab, p.ok⟩
theorem Pool.le {H : Hp} {r a b : Addr} {n k : Nat} {xs : List Str} {m : Nat} (p : Pool H r a b n xs m) (h : n ≤ k) : Pool H r a b k xs m := ⟨p.g.le h, p.f, p.l, p.ar, p.br, p.ab, p.ok⟩
theorem Pool.ne {H : Hp} {r a b p : Addr} {n : Nat} {xs : List Str} {m : Nat} (o : Pool H r a b n xs m) {ys : List V} (h : H p = some (.tup ys)) : p ≠ r ∧ p ≠ a ∧ p ≠ b :=
  ⟨o.g.ne_tup h, ne_of h o.f (fun z => nomatch z), ne_of h o.l (fun z => nomatch z)⟩
theorem Bs.tk {r a b : Addr} {n : Nat} {xs : List Str} {m : Nat} {H H' : Hp} (e : Bs r a b H H') (o : Pool H r a b n xs m) : TupK H H' := fun q ys h => by
  obtain ⟨n1, n2, n3⟩ := o.ne h
  exact e q _ n1 n2 n3 h
theorem erase_perm {α : Type} : ∀ (xs : List α) (k : Nat) (h : k < xs.length), (xs[k] :: xs.eraseIdx k).Perm xs
  | x :: xs, 0, _ => List.Perm.refl _
  | x :: xs, k + 1, h => by
    have hk : k < xs.length := Nat.lt_of_succ_lt_succ h
    show (xs[k] :: x :: xs.eraseIdx k).Perm (x :: xs)
    exact (List.Perm.swap _ _ _).trans ((erase_perm xs k (Nat.lt_of_succ_lt_succ h)).cons x)
theorem erase_map {α β : Type} (g : α → β) : ∀ (xs : List α) (k : Nat), (xs.map g).eraseIdx k = (xs.eraseIdx k).map g
  | [], _ => rfl
  | x :: xs, 0 => rfl
  | x :: xs, k + 1 => by
    show g x :: (xs.map g).eraseIdx k = g x :: (xs.eraseIdx k).map g
    rw [erase_map g xs k]
/-- what a drawn tree is, and what it takes -/
structure Took (nd : Nd) (span : Nat) (xs ys : List Str) (m m' : Nat) : Prop where
  wf : nd.wf
  vs : (nd.vars ++ ys).Perm xs
  lv : nd.leaves + ys.length + m' = xs.length + m
  sz : nd.size ≤ span
def spTree (isE : Bool) (lo c s : Nat) : Sp := fun vs H Q _ => ∃ r a b span top n xs m, vs = [.ref r, .ref a, .ref b, .int (span : Nat), .int top] ∧ lo ≤ span ∧ span ≤ s ∧ span ≤ 30 ∧ 0 ≤ top ∧ top < 2 ^ 120 ∧ n + 6 * span < 2 ^ 50 + c ∧ Pool H r a b n xs m ∧ xs.length ≤ 100 ∧ m ≤ 100 ∧ 3 * span ≤ 5 * (xs.length + m) + 2 ∧
  ∀ p nd ys m' H', Bs r a b H H' → Pool H' r a b (n + 6 * span - c) ys m' → TreeAt H' p nd → nd.isE = isE → Took nd span xs ys m m' → 5 * nd.leaves ≤ 3 * span + (if isE = true then 2 else 1) → Q (.ref p) H'
theorem tree_at {isE : Bool} {lo c s : Nat} {σ : L2.St} {H : Hp} {ta : TA} {E : XK} {Q : VK} {r a b : Addr} {span : Nat} {top : Int} {n : Nat} {xs : List Str} {m : Nat} (h : EvA ta σ H [.ref r, .ref a, .ref b, .int (span : Nat), .int top]) (h1 : lo ≤ span) (h2 : span ≤ s) (h3 : span ≤ 30) (t0 : 0 ≤ top) (t1 : top < 2 ^ 120) (hn : n + 6 * span < 2 ^ 50 + c) (o : Pool H r a b n xs m) (hx : xs.length ≤ 100) (hm : m ≤ 100) (h5 : 3 * span ≤ 5 * (xs.length + m) + 2)
    (k : ∀ p nd ys m' H', Bs r a b H H' → Pool H' r a b (n + 6 * span - c) ys m' → TreeAt H' p nd → nd.isE = isE → Took nd span xs ys m m' → 5 * nd.leaves ≤ 3 * span + (if isE = true then 2 else 1) → Q (.ref p) H') : tCall (spTree isE lo c s) [] E ta σ H Q :=
  h H (Ex.refl H) _ fun H1 e => ⟨r, a, b, span, top, n, xs, m, rfl, h1, h2, h3, t0, t1, hn, o.ex e, hx, hm, h5, fun p nd ys m' H' bs => k p nd ys m' H' ((Bs.of e).trans bs)⟩
theorem Took.len {nd : Nd} {span : Nat} {xs ys : List Str} {m m' : Nat} (t : Took nd span xs ys m m') : ys.length ≤ xs.length := by
  have := t.vs.length_eq
  rw [List.length_append] at this
  omega
theorem leaves_pos : ∀ nd : Nd, 1 ≤ nd.leaves
  | .var _ => Nat.le_refl _ | .lit _ _ => Nat.le_refl _ | .cast _ e => leaves_pos e | .neg e => leaves_pos e
  | .bin _ e f => Nat.le_trans (leaves_pos e) (Nat.le_add_right _ _) | .sh _ e _ => leaves_pos e
  | .ite c e f => Nat.le_trans (leaves_pos c) (Nat.le_trans (Nat.le_add_right _ _) (Nat.le_add_right _ _))
  | .cmp _ e f => Nat.le_trans (leaves_pos e) (Nat.le_add_right _ _) | .nt c => leaves_pos c | .lg _ c d => Nat.le_trans (leaves_pos c) (Nat.le_add_right _ _)
theorem vars_leaves : ∀ nd : Nd, nd.vars.length ≤ nd.leaves
  | .var _ => Nat.le_refl _ | .lit _ _ => Nat.zero_le _ | .cast _ e => vars_leaves e | .neg e => vars_leaves e
  | .bin _ e f => by have h1 := vars_leaves e; have h2 := vars_leaves f; simp only [Nd.vars, Nd.leaves, List.length_append]; omega
  | .sh _ e _ => vars_leaves e
  | .ite c e f => by have h0 := vars_leaves c; have h1 := vars_leaves e; have h2 := vars_leaves f; simp only [Nd.vars, Nd.leaves, List.length_append]; omega
  | .cmp _ e f => by have h1 := vars_leaves e; have h2 := vars_leaves f; simp only [Nd.vars, Nd.leaves, List.length_append]; omega
  | .nt c => vars_leaves c
  | .lg _ e f => by have h1 := vars_leaves e; have h2 := vars_leaves f; simp only [Nd.vars, Nd.leaves, List.length_append]; omega
/-- the literals that are left do not grow -/
theorem Took.ml {nd : Nd} {span : Nat} {xs ys : List Str} {m m' : Nat} (t : Took nd span xs ys m m') : m' ≤ m := by
  have h1 := t.vs.length_eq
  rw [List.length_append] at h1
  have h2 := vars_leaves nd
  have h3 := t.lv
  omega
theorem perm2 {u v xs ys zs : List Str} (h1 : (u ++ ys).Perm xs) (h2 : (v ++ zs).Perm ys) : ((u ++ v) ++ zs).Perm xs := by
  rw [List.append_assoc]
  exact (h2.append_left u).trans h1
theorem Pool.fr {H : Hp} {r a b p : Addr} {n : Nat} {xs : List Str} {m : Nat} (o : Pool H r a b n xs m) (h : H p = none) : p ≠ r ∧ p ≠ a ∧ p ≠ b := by
  obtain ⟨d, s2, c, q, _⟩ := o.g
  exact ⟨(fun z => by rw [z, q] at h; exact nomatch h), (fun z => by rw [z, o.f] at h; exact nomatch h), (fun z => by rw [z, o.l] at h; exact nomatch h)⟩
/-- one leaf: at most five draws -/
def spLeaf : Sp := fun vs H Q _ => ∃ r a b top n xs m, vs = [.ref r, .ref a, .ref b, .int top] ∧ 0 ≤ top ∧ top < 2 ^ 120 ∧ n < 2 ^ 50 ∧ Pool H r a b n xs m ∧ xs.length ≤ 100 ∧ m ≤ 100 ∧ 1 ≤ xs.length + m ∧
  ∀ p nd ys m' H', Bs r a b H H' → Pool H' r a b (n + 5) ys m' → TreeAt H' p nd → nd.isE = true → Took nd 1 xs ys m m' → nd.leaves = 1 → Q (.ref p) H'
theorem pop_raw {K : PySem.W.Frag} {σ : L2.St} {H : Hp} {i : Nat} {l : Addr} {xs : List V} {r : V → List V → Hp → VK → Prop} {tr : TA} {Q : VK} (hi : σ[i]? = some (some (.ref l))) (hl : H l = some (.lst xs)) (h : tr σ H fun ys H2 => r (.ref l) ys H2 Q) : tBM K "list" r (tVar i) tr σ H Q :=
  ⟨.ref l, hi, .inl ⟨rfl, xs, sq_of hl⟩, h⟩
theorem pop0_raw {K : PySem.W.Frag} {σ : L2.St} {H : Hp} {i : Nat} {l : Addr} {xs : List V} {r : V → List V → Hp → VK → Prop} {Q : VK} (hi : σ[i]? = some (some (.ref l))) (hl : H l = some (.lst xs)) (h : r (.ref l) [] H Q) : tBM0 K "list" r (tVar i) σ H Q :=
  ⟨.ref l, hi, .inl ⟨rfl, xs, sq_of hl⟩, h⟩
theorem seq_ix {k n : Nat} (h : k < n) : seqIndex? (k : Int) n = some k := (ixN_seq (ixN_nat h)).1
/-- a list of scalars against the empty one -/
theorem ev_neE {K : PySem.W.Frag} {σ : L2.St} {H : Hp} {ta tb : TE} {a : Addr} {ds : List PyData} (ha : Ev ta σ H (.ref a)) (hb : EvL tb σ H []) (hx : ∀ H1, Ex H H1 → Dp K H1 (.ref a) (.list ds)) (hs : SeqAt.shaped (.list ds) = true) : Ev (tOp (rNeD K) ta tb) σ H (.bl (!PyData.eqv (.list ds) (.list []))) :=
  ev_opL ha hb fun q H1 hq e => fun H2 e2 Q k => ⟨.list ds, .list [], hx H2 (e.trans e2), .lst (sq_of (e2 _ _ hq)) .nil, hs, rfl, k H2 (Ex.refl H2)⟩
theorem ev_eqE {K : PySem.W.Frag} {σ : L2.St} {H : Hp} {ta tb : TE} {a : Addr} {ds : List PyData} (ha : Ev ta σ H (.ref a)) (hb : EvL tb σ H []) (hx : ∀ H1, Ex H H1 → Dp K H1 (.ref a) (.list ds)) (hs : SeqAt.shaped (.list ds) = true) : Ev (tOp (rEqD K) ta tb) σ H (.bl (PyData.eqv (.list ds) (.list []))) :=
  ev_opL ha hb fun q H1 hq e => fun H2 e2 Q k => ⟨.list ds, .list [], hx H2 (e.trans e2), .lst (sq_of (e2 _ _ hq)) .nil, hs, rfl, k H2 (Ex.refl H2)⟩
theorem dp_strs {K : PySem.W.Frag} {H : Hp} : ∀ xs : List Str, DpAll K H (xs.map V.str) (xs.map PyData.str)
  | [] => .nil
  | x :: xs => .cons (.str _) (dp_strs xs)
theorem strs_lay : ∀ xs : List Str, (∀ x ∈ xs, PyData.strOk x = true) → PyData.canLayAll0 (xs.map PyData.str) = true
  | [], _ => by simp [PyData.canLayAll0]
  | k :: ks, h => by
    have ih := strs_lay ks fun x hx => h x (List.mem_cons_of_mem _ hx)
    have hk := h k (List.mem_cons_self ..)
    simp [PyData.canLayAll0, PyData.canLay0, ih, hk]
theorem strs_depth : ∀ xs : List Str, PyData.depthAll (xs.map PyData.str) ≤ 2
  | [] => by simp [PyData.depthAll]
  | k :: ks => by
    have ih := strs_depth ks
    simp only [List.map_cons, PyData.depthAll, PyData.depth]
    omega
theorem strs_shaped {xs : List Str} (h : ∀ x ∈ xs, PyData.strOk x = true) : SeqAt.shaped (.list (xs.map PyData.str)) = true := by
  have h1 := strs_depth xs
  show (PyData.canLay0 (.list (xs.map PyData.str)) && decide (PyData.depth (.list (xs.map PyData.str)) ≤ 64)) = true
  rw [Bool.and_eq_true]
  refine ⟨by simp only [PyData.canLay0]; exact strs_lay xs h, decide_eq_true ?_⟩
  simp only [PyData.depth]
  omega
theorem zeros_lay : ∀ m : Nat, PyData.canLayAll0 (List.replicate m (.int 0)) = true
  | 0 => by simp [PyData.canLayAll0]
  | m + 1 => by
    have ih := zeros_lay m
    simp [PyData.canLayAll0, PyData.canLay0, ih, List.replicate_succ]
theorem zeros_depth : ∀ m : Nat, PyData.depthAll (List.replicate m (.int 0)) ≤ 2
  | 0 => by simp [PyData.depthAll]
  | m + 1 => by
    have ih := zeros_depth m
    simp only [List.replicate_succ, PyData.depthAll, PyData.depth]
    omega
theorem zeros_shaped (m : Nat) : SeqAt.shaped (.list (List.replicate m (.int 0))) = true := by
  have h1 := zeros_depth m
  show (PyData.canLay0 (.list (List.replicate m (.int 0))) && decide (PyData.depth (.list (List.replicate m (.int 0))) ≤ 64)) = true
  rw [Bool.and_eq_true]
  refine ⟨by simp only [PyData.canLay0]; exact zeros_lay m, decide_eq_true ?_⟩
  simp only [PyData.depth]
  omega
theorem strs_nil (xs : List Str) : PyData.eqv (.list (xs.map PyData.str)) (.list []) = decide (xs = []) := by cases xs <;> simp [PyData.eqv, PyData.eqvAll]
theorem zeros_nil (m : Nat) : PyData.eqv (.list (List.replicate m (.int 0))) (.list []) = decide (m = 0) := by cases m <;> simp [PyData.eqv, PyData.eqvAll, List.replicate_succ]
theorem dp_zeros {K : PySem.W.Frag} {H : Hp} : ∀ m : Nat, DpAll K H (List.replicate m (.int 0)) (List.replicate m (.int 0))
  | 0 => .nil
  | m + 1 => .cons (.int _) (dp_zeros m)
theorem cond_go {t : TT} {σ : L2.St} {H : Hp} {K : Bool → Hp → Prop} (P : Bool → Hp → Prop) (h1 : ∀ K : Bool → Hp → Prop, (∀ b H1, P b H1 → K b H1) → t σ H K) (h2 : ∀ b H1, P b H1 → K b H1) : t σ H K := h1 K h2

theorem and_raw {t u : TT} {σ : L2.St} {H : Hp} {Q : Bool → Hp → Prop} (h : t σ H fun c H1 => if c = true then u σ H1 Q else Q false H1) : tAnd t u σ H Q := h
theorem or_raw {t u : TT} {σ : L2.St} {H : Hp} {Q : Bool → Hp → Prop} (h : t σ H fun c H1 => if c = true then Q true H1 else u σ H1 Q) : tOr t u σ H Q := h
theorem rep_last (m : Nat) : (List.replicate (m + 1) (V.int 0))[(List.replicate (m + 1) (V.int 0)).length - 1]? = some (.int 0) := by
  rw [List.length_replicate, List.getElem?_replicate]
  exact if_pos (by omega)
theorem rep_drop (m : Nat) : (List.replicate (m + 1) (V.int 0)).dropLast = List.replicate m (.int 0) := by
  rw [List.dropLast_replicate]
  rfl
def sufsL : List V := [.str "", .str "", .str "u", .str "l", .str "ul", .str "w", .str "uw"]
theorem suf_at {j : Nat} (h : j < 7) : ∃ s, sufsL[j]? = some (.str s) ∧ s ∈ sufs := by
  match j, h with
  | 0, _ => exact ⟨_, rfl, by decide⟩
  | 1, _ => exact ⟨_, rfl, by decide⟩
  | 2, _ => exact ⟨_, rfl, by decide⟩
  | 3, _ => exact ⟨_, rfl, by decide⟩
  | 4, _ => exact ⟨_, rfl, by decide⟩
  | 5, _ => exact ⟨_, rfl, by decide⟩
  | 6, _ => exact ⟨_, rfl, by decide⟩
theorem given_all {α : Type} (xs : List α) (g : α → V) (d : α) : given xs.length (fun _ => true) (fun i => g (xs.getD i d)) = xs.map g := by
  unfold given
  rw [List.filter_eq_self.mpr (fun _ _ => rfl)]
  apply List.ext_getElem?
  intro i
  rw [List.getElem?_map, List.getElem?_map]
  by_cases h : i < xs.length
  · rw [List.getElem?_range h, List.getElem?_eq_getElem h]
    show some (g (xs.getD i d)) = some (g xs[i])
    rw [List.getD_eq_getElem?_getD, List.getElem?_eq_getElem h]
    rfl
  · rw [List.getElem?_eq_none (by simpa using h), List.getElem?_eq_none (by simpa using h)]
    rfl
def spWhole : Sp := fun vs H Q _ => ∃ r l many span top n rows, vs = [.ref r, .ref l, .int (many : Nat), .int (span : Nat), .int top] ∧ 1 ≤ many ∧ many ≤ 10 ∧ 1 ≤ span ∧ span ≤ 24 ∧ 0 ≤ top ∧ top < 2 ^ 120 ∧ n < 2 ^ 40 ∧ Rng H r n ∧ VarsAt H l rows ∧ rows.length ≤ 8 ∧ (∀ w ∈ rows, PyData.strOk w.name = true) ∧
  ∀ p nd H', Bu r H H' → Rng H' r (n + 200) → TreeAt H' p nd → nd.wf → nd.size ≤ 24 → (∃ ys, (nd.vars ++ ys).Perm (rows.map Row.name)) → Q (.ref p) H'
theorem Bs.back {r a b : Addr} {H H1 H2 : Hp} (e : Ex H H1) (ha : H a = none) (hb : H b = none) (bs : Bs r a b H1 H2) : Bu r H H2 := fun q o n h => bs q o n (fun z => by rw [z, ha] at h; exact nomatch h) (fun z => by rw [z, hb] at h; exact nomatch h) (e q o h)
end Cf

namespace Cf
open PySem PySem.Spec PyProof.Rows L2 Evl
/-! ## literals -/
def stOf (s : Str) : Nat := if s = "w" ∨ s = "uw" then 4 else if s = "l" ∨ s = "ul" then 3 else 2
def sgOf (s : Str) : Bool := !decide (s = "u" ∨ s = "ul" ∨ s = "uw")
def Md.hol (m : Md) (k : Kd) (i : Int) : Bool := decide (m.low k ≤ i ∧ i ≤ m.high k)
/-- the first of the last j ranks -/
def Md.litR (m : Md) (n : Int) (sg : Bool) : Nat → Option Kd
  | 0 => none
  | j + 1 => if m.hol (lawOf (4 - j) sg) n = true then some (lawOf (4 - j) sg) else m.litR n sg j
def Md.lit (m : Md) (n : Int) (s : Str) : Option Kd := m.litR n (sgOf s) (5 - stOf s)
def optV : Option Kd → V
  | none => .non
  | some k => k.v
def preLit (K : PySem.W.Frag) : List V → Hp → V → Prop := fun vs H v => ∃ p m n s, vs = [.ref p, .int n, .str s] ∧ AtM K H p m ∧ m.Ok ∧ s ∈ sufs ∧ v = optV (m.lit n s)
theorem spLit {K : PySem.W.Frag} {H : Hp} {p : Addr} {m : Md} {n : Int} {s : Str} (a : AtM K H p m) (o : m.Ok) (h : s ∈ sufs) : SpV (PV (preLit K)) [.ref p, .int n, .str s] H (optV (m.lit n s)) := PV.sp fun H1 e => ⟨p, m, n, s, rfl, a.ex e, o, h, rfl⟩
def preSt : List V → Hp → V → Prop := fun vs H v => ∃ s, vs = [.str s] ∧ s ∈ sufs ∧ v = .int (stOf s : Nat)
theorem spSt {H : Hp} {s : Str} (h : s ∈ sufs) : SpV (PV preSt) [.str s] H (.int (stOf s : Nat)) := PV.sp fun H1 e => ⟨s, rfl, h, rfl⟩
def inStr (a b : Str) : Bool := !(Builtin.Str.occurrences b a 0 b.length 1).isEmpty
theorem suf_facts {s : Str} (h : s ∈ sufs) : inStr "u" s = !sgOf s ∧ 2 + (if inStr "l" s = true then 1 else 0) + 2 * (if inStr "w" s = true then 1 else 0) = stOf s ∧ (inStr "w" s = true → stOf s = 4) ∧ (inStr "w" s = false → inStr "l" s = true → stOf s = 3) ∧ (inStr "w" s = false → inStr "l" s = false → stOf s = 2) ∧ 2 ≤ stOf s ∧ stOf s ≤ 4 := by
  simp only [sufs, List.mem_cons, List.not_mem_nil, or_false] at h
  rcases h with rfl | rfl | rfl | rfl | rfl | rfl <;> decide +kernel
theorem rv_inS {a b : Str} {H : Hp} : RV (fun x y H Q => ∃ i j, x = .str i ∧ y = .str j ∧ Q (.bl (!(Builtin.Str.occurrences j i 0 j.length 1).isEmpty)) H) (.str a) (.str b) H (.bl (inStr a b)) := fun H1 _ _ q => ⟨_, _, rfl, rfl, q H1 (Ex.refl H1)⟩
theorem rv_niS {a b : Str} {H : Hp} : RV (fun x y H Q => ∃ i j, x = .str i ∧ y = .str j ∧ Q (.bl (!(!(Builtin.Str.occurrences j i 0 j.length 1).isEmpty))) H) (.str a) (.str b) H (.bl (!inStr a b)) := fun H1 _ _ q => ⟨_, _, rfl, rfl, q H1 (Ex.refl H1)⟩
theorem ev_int1 {σ : L2.St} {H : Hp} {ta : TE} {b : Bool} (h : Ev ta σ H (.bl b)) : Ev (tCB (fun xs H Q => (∃ i, xs = [.int i] ∧ Q (.int i) H) ∨ ∃ k, xs = [.bl k] ∧ Q (.int (if k then 1 else 0)) H) (tCons ta tNil)) σ H (.int (if b = true then 1 else 0)) := ev_cb (ea_cons h ea_nil) fun H1 e Q q => .inr ⟨b, rfl, q H1 (Ex.refl H1)⟩
/-! ## admission -/
def Md.rowOk (m : Md) (w : Row) : Bool := m.hol w.kind w.low && m.hol w.kind w.high
def admV (m : Md) (rows : List Row) : Option Str := (rows.find? fun w => !m.rowOk w).map Row.name
def Nd.bad (m : Md) : Nd → Option (List Nat)
  | .var _ => none
  | .lit n s => if m.lit n s = none then some [] else none
  | .cast _ e => (e.bad m).map (0 :: ·)
  | .neg e => (e.bad m).map (0 :: ·)
  | .bin _ e f => ((e.bad m).map (0 :: ·)).or ((f.bad m).map (1 :: ·))
  | .sh _ e _ => (e.bad m).map (0 :: ·)
  | .ite c e f => ((c.bad m).map (0 :: ·)).or (((e.bad m).map (1 :: ·)).or ((f.bad m).map (2 :: ·)))
  | .cmp _ e f => ((e.bad m).map (0 :: ·)).or ((f.bad m).map (1 :: ·))
  | .nt c => (c.bad m).map (0 :: ·)
  | .lg _ c d => ((c.bad m).map (0 :: ·)).or ((d.bad m).map (1 :: ·))
def badL (m : Md) : Nat → List Nd → Option (List Nat)
  | _, [] => none
  | i, e :: es => ((e.bad m).map (i :: ·)).or (badL m (i + 1) es)
theorem bad_parts {m : Md} : ∀ {nd : Nd}, (∀ n s, nd = .lit n s → m.lit n s ≠ none) → nd.bad m = badL m 0 nd.parts
  | .var _, _ => rfl
  | .lit n s, h => if_neg (h n s rfl)
  | .cast _ _, _ => (Option.or_none ..).symm | .neg _, _ => (Option.or_none ..).symm | .sh _ _ _, _ => (Option.or_none ..).symm | .nt _, _ => (Option.or_none ..).symm
  | .bin _ _ _, _ => by simp only [Nd.bad, Nd.parts, badL, Option.or_none]
  | .ite _ _ _, _ => by simp only [Nd.bad, Nd.parts, badL, Option.or_none]
  | .cmp _ _ _, _ => by simp only [Nd.bad, Nd.parts, badL, Option.or_none]
  | .lg _ _ _, _ => by simp only [Nd.bad, Nd.parts, badL, Option.or_none]
theorem badL_at {m : Md} : ∀ {es : List Nd} {k i : Nat} {e : Nd} {q : List Nat}, es[i]? = some e → (∀ (j : Nat) (x : Nd), j < i → es[j]? = some x → x.bad m = none) → e.bad m = some q → badL m k es = some ((k + i) :: q)
  | x :: es, k, 0, e, q, h, _, hb => by
    cases (Option.some.inj h)
    simp only [badL, hb, Option.map_some, Option.some_or, Nat.add_zero]
  | x :: es, k, i + 1, e, q, h, hn, hb => by
    have h0 := hn 0 x (by omega) rfl
    have ih := badL_at (es := es) (k := k + 1) (i := i) (e := e) (q := q) h (fun j y hj hy => hn (j + 1) y (by omega) hy) hb
    simp only [badL, h0, Option.map_none, Option.none_or, ih]
    congr 2
    omega
theorem badL_no {m : Md} : ∀ {es : List Nd} {k : Nat}, (∀ (j : Nat) (x : Nd), es[j]? = some x → x.bad m = none) → badL m k es = none
  | [], _, _ => rfl
  | x :: es, k, h => by
    have h0 := h 0 x rfl
    have ih := badL_no (es := es) (k := k + 1) fun j y hy => h (j + 1) y hy
    simp only [badL, h0, Option.map_none, Option.none_or, ih]
theorem find_at {α : Type} {p : α → Bool} : ∀ {xs : List α} {i : Nat} {x : α}, xs[i]? = some x → p x = true → (∀ (j : Nat) (y : α), j < i → xs[j]? = some y → p y = false) → xs.find? p = some x
  | a :: xs, 0, x, h, hp, _ => by
    cases (Option.some.inj h)
    rw [List.find?_cons, hp]
  | a :: xs, i + 1, x, h, hp, hn => by
    rw [List.find?_cons, hn 0 a (by omega) rfl]
    exact find_at (i := i) h hp fun j y hj hy => hn (j + 1) y (by omega) hy
theorem find_no {α : Type} {p : α → Bool} {xs : List α} (h : ∀ (j : Nat) (y : α), xs[j]? = some y → p y = false) : xs.find? p = none := by
  rw [List.find?_eq_none]
  intro x hx
  obtain ⟨j, hj⟩ := List.getElem?_of_mem hx
  rw [h j x hj]
  decide
def pathV (q : List Nat) : List V := q.map fun i => V.int (i : Nat)
def pathD (q : List Nat) : PyData := .tuple (q.map fun i => PyData.int (i : Nat))
def admD (m : Md) (rows : List Row) (nd : Nd) (pt : List Nat) : PyData :=
  match admV m rows with
  | some x => .tuple [.str "variable", .str x]
  | none => match nd.bad m with
    | some q => .tuple [.str "literal", pathD (pt ++ q)]
    | none => .none
theorem path_all {K : PySem.W.Frag} {H : Hp} : ∀ q : List Nat, DpAll K H (pathV q) (q.map fun i => PyData.int (i : Nat))
  | [] => .nil
  | i :: q => .cons (.int _) (path_all q)
theorem path_dp {K : PySem.W.Frag} {H : Hp} {t : Addr} {q : List Nat} (h : SqT K H t (pathV q)) : Dp K H (.ref t) (pathD q) := .tup h (path_all q)
def spAdm (K : PySem.W.Frag) (d : Nat) : Sp := fun vs H Q _ => ∃ sch l p t m rows nd pt, vs = [.ref sch, .ref l, .ref p, .ref t] ∧ AtM K H sch m ∧ m.Ok ∧ VarsAt H l rows ∧ TreeAt H p nd ∧ nd.wf ∧ nd.size ≤ d ∧ SqT K H t (pathV pt) ∧ pt.length + nd.size ≤ 100 ∧
  ∀ v H', Ex H H' → Dp K H' v (admD m rows nd pt) → Q v H'
theorem PartsAt.at {H : Hp} : ∀ {qs : List Addr} {es : List Nd}, PartsAt H qs es → qs.length = es.length ∧ ∀ (i : Nat) (q : Addr), qs[i]? = some q → ∃ e, es[i]? = some e ∧ TreeAt H q e
  | [], [], _ => ⟨rfl, fun i q h => nomatch h⟩
  | q :: qs, e :: es, h => by
    obtain ⟨h1, h2⟩ := h.2.at
    refine ⟨by rw [List.length_cons, List.length_cons, h1], fun i x hx => ?_⟩
    cases i with
    | zero => cases (Option.some.inj hx); exact ⟨e, rfl, h.1⟩
    | succ i => exact h2 i x hx
  | [], _ :: _, h => h.elim
  | _ :: _, [], h => h.elim
theorem parts_wf : ∀ {nd : Nd}, nd.wf → ∀ e ∈ nd.parts, e.wf ∧ e.size < nd.size
  | .var _, _, e, h => nomatch h
  | .lit _ _, _, e, h => nomatch h
  | .cast _ a, w, e, h => by simp only [Nd.parts, List.mem_cons, List.not_mem_nil, or_false] at h; rw [h]; exact ⟨w.2, by simp only [Nd.size]; omega⟩
  | .neg a, w, e, h => by simp only [Nd.parts, List.mem_cons, List.not_mem_nil, or_false] at h; rw [h]; exact ⟨w.2, by simp only [Nd.size]; omega⟩
  | .bin _ a b, w, e, h => by
    simp only [Nd.parts, List.mem_cons, List.not_mem_nil, or_false] at h
    rcases h with rfl | rfl
    · exact ⟨w.2.2.1, by simp only [Nd.size]; omega⟩
    · exact ⟨w.2.2.2, by simp only [Nd.size]; omega⟩
  | .sh _ a _, w, e, h => by simp only [Nd.parts, List.mem_cons, List.not_mem_nil, or_false] at h; rw [h]; exact ⟨w.2.1, by simp only [Nd.size]; omega⟩
  | .ite a b c, w, e, h => by
    simp only [Nd.parts, List.mem_cons, List.not_mem_nil, or_false] at h
    rcases h with rfl | rfl | rfl
    · exact ⟨w.2.2.2.1, by simp only [Nd.size]; omega⟩
    · exact ⟨w.2.2.2.2.1, by simp only [Nd.size]; omega⟩
    · exact ⟨w.2.2.2.2.2, by simp only [Nd.size]; omega⟩
  | .cmp _ a b, w, e, h => by
    simp only [Nd.parts, List.mem_cons, List.not_mem_nil, or_false] at h
    rcases h with rfl | rfl
    · exact ⟨w.2.2.1, by simp only [Nd.size]; omega⟩
    · exact ⟨w.2.2.2, by simp only [Nd.size]; omega⟩
  | .nt a, w, e, h => by simp only [Nd.parts, List.mem_cons, List.not_mem_nil, or_false] at h; rw [h]; exact ⟨w.2, by simp only [Nd.size]; omega⟩
  | .lg _ a b, w, e, h => by
    simp only [Nd.parts, List.mem_cons, List.not_mem_nil, or_false] at h
    rcases h with rfl | rfl
    · exact ⟨w.2.2.1, by simp only [Nd.size]; omega⟩
    · exact ⟨w.2.2.2, by simp only [Nd.size]; omega⟩
theorem word_lit : ∀ {nd : Nd}, nd.word = "lit" → ∃ n s, nd = .lit n s
  | .lit n s, _ => ⟨n, s, rfl⟩
  | .bin .add _ _, h => absurd h (by show ("add" : Str) ≠ "lit"; decide)
  | .bin .sub _ _, h => absurd h (by show ("sub" : Str) ≠ "lit"; decide)
  | .bin .mul _ _, h => absurd h (by show ("mul" : Str) ≠ "lit"; decide)
  | .sh true _ _, h => absurd h (by show ("shl" : Str) ≠ "lit"; decide)
  | .sh false _ _, h => absurd h (by show ("shr" : Str) ≠ "lit"; decide)
  | .cmp true _ _, h => absurd h (by show ("less" : Str) ≠ "lit"; decide)
  | .cmp false _ _, h => absurd h (by show ("most" : Str) ≠ "lit"; decide)
  | .lg true _ _, h => absurd h (by show ("and" : Str) ≠ "lit"; decide)
  | .lg false _ _, h => absurd h (by show ("or" : Str) ≠ "lit"; decide)
  | .var _, h => absurd h (by show ("var" : Str) ≠ "lit"; decide)
  | .cast _ _, h => absurd h (by show ("cast" : Str) ≠ "lit"; decide)
  | .neg _, h => absurd h (by show ("neg" : Str) ≠ "lit"; decide)
  | .ite _ _ _, h => absurd h (by show ("if" : Str) ≠ "lit"; decide)
  | .nt _, h => absurd h (by show ("not" : Str) ≠ "lit"; decide)
theorem cat_at {K : PySem.W.Frag} {t u : Addr} {xs ys : List V} {H : Hp} {Q : VK} (h1 : SqT K H t xs) (h2 : SqT K H u ys) (hy : ys ≠ []) (hz : xs.length + ys.length ≤ 100000) (k : ∀ p H', Ex H H' → SqT K H' p (xs ++ ys) → Q (.ref p) H') : rCatA K (.ref t) (.ref u) H Q :=
  ⟨t, u, xs, ys, rfl, rfl, h1, h2, sz_of hz, fun hx => by subst hx; exact k u H (Ex.refl H) h2, fun _ h => absurd h hy, fun _ _ p hp => k p _ (Ex.new hp) (st_of upd_same)⟩
end Cf

namespace Cf
open PySem PySem.Spec PyProof.Rows L2 Evl
/-! ## the same tree but for its literals -/
structure Like (a b : Nd) : Prop where
  wf : b.wf
  vs : b.vars = a.vars
  sz : b.size = a.size
  e : b.isE = a.isE
def sumSz : List Nd → Nat
  | [] => 0
  | e :: es => e.size + sumSz es
theorem size_sum : ∀ nd : Nd, nd.size = 1 + sumSz nd.parts
  | .var _ => rfl | .lit _ _ => rfl | .cast _ _ => rfl | .neg _ => rfl | .sh _ _ _ => rfl | .nt _ => rfl
  | .bin _ _ _ => by simp only [Nd.size, Nd.parts, sumSz]; omega
  | .ite _ _ _ => by simp only [Nd.size, Nd.parts, sumSz]; omega
  | .cmp _ _ _ => by simp only [Nd.size, Nd.parts, sumSz]; omega
  | .lg _ _ _ => by simp only [Nd.size, Nd.parts, sumSz]; omega
theorem sum_take : ∀ (es : List Nd) (i : Nat) (e : Nd), es[i]? = some e → sumSz (es.take (i + 1)) = sumSz (es.take i) + e.size
  | x :: es, 0, e, h => by
    cases (Option.some.inj h)
    simp [sumSz]
  | x :: es, i + 1, e, h => by
    have ih := sum_take es i e h
    simp only [List.take_succ_cons, sumSz, ih]
    omega
theorem sum_le : ∀ (es : List Nd) (i : Nat), sumSz (es.take i) ≤ sumSz es
  | [], i => by simp [sumSz]
  | x :: es, 0 => by simp [sumSz]
  | x :: es, i + 1 => by
    have ih := sum_le es i
    simp only [List.take_succ_cons, sumSz]
    omega
/-- a row of like ones -/
def Likes : List Nd → List Nd → Prop
  | [], [] => True
  | a :: as, b :: bs => Like a b ∧ Likes as bs
  | _, _ => False
theorem likes_add : ∀ {as bs : List Nd} {a b : Nd}, Likes as bs → Like a b → Likes (as ++ [a]) (bs ++ [b])
  | [], [], _, _, _, h => ⟨h, trivial⟩
  | _ :: _, _ :: _, _, _, h, k => ⟨h.1, likes_add h.2 k⟩
  | [], _ :: _, _, _, h, _ => h.elim
  | _ :: _, [], _, _, h, _ => h.elim
theorem parts_add {H : Hp} : ∀ {qs : List Addr} {es : List Nd} {q : Addr} {e : Nd}, PartsAt H qs es → TreeAt H q e → PartsAt H (qs ++ [q]) (es ++ [e])
  | [], [], _, _, _, h => ⟨h, trivial⟩
  | _ :: _, _ :: _, _, _, h, k => ⟨h.1, parts_add h.2 k⟩
  | [], _ :: _, _, _, h, _ => h.elim
  | _ :: _, [], _, _, h, _ => h.elim
theorem likes_one {e : Nd} : ∀ {bs : List Nd}, Likes [e] bs → ∃ b, bs = [b] ∧ Like e b
  | [b], h => ⟨b, rfl, h.1⟩
  | [], h => h.elim
  | _ :: _ :: _, h => h.2.elim
theorem likes_two {e f : Nd} : ∀ {bs : List Nd}, Likes [e, f] bs → ∃ b c, bs = [b, c] ∧ Like e b ∧ Like f c
  | [b, c], h => ⟨b, c, rfl, h.1, h.2.1⟩
  | [], h => h.elim
  | [_], h => h.2.elim
  | _ :: _ :: _ :: _, h => h.2.2.elim
theorem likes_three {e f g : Nd} : ∀ {bs : List Nd}, Likes [e, f, g] bs → ∃ b c d, bs = [b, c, d] ∧ Like e b ∧ Like f c ∧ Like g d
  | [b, c, d], h => ⟨b, c, d, rfl, h.1, h.2.1, h.2.2.1⟩
  | [], h => h.elim
  | [_], h => h.2.elim
  | [_, _], h => h.2.2.elim
  | _ :: _ :: _ :: _ :: _, h => h.2.2.2.elim
theorem parts_one {H : Hp} {e : Nd} : ∀ {qs : List Addr}, PartsAt H qs [e] → ∃ q, qs = [q] ∧ TreeAt H q e
  | [q], h => ⟨q, rfl, h.1⟩
  | [], h => h.elim
  | _ :: _ :: _, h => h.2.elim
theorem parts_two {H : Hp} {e f : Nd} : ∀ {qs : List Addr}, PartsAt H qs [e, f] → ∃ q r, qs = [q, r] ∧ TreeAt H q e ∧ TreeAt H r f
  | [q, r], h => ⟨q, r, rfl, h.1, h.2.1⟩
  | [], h => h.elim
  | [_], h => h.2.elim
  | _ :: _ :: _ :: _, h => h.2.2.elim
theorem parts_three {H : Hp} {e f g : Nd} : ∀ {qs : List Addr}, PartsAt H qs [e, f, g] → ∃ q r s, qs = [q, r, s] ∧ TreeAt H q e ∧ TreeAt H r f ∧ TreeAt H s g
  | [q, r, s], h => ⟨q, r, s, rfl, h.1, h.2.1, h.2.2.1⟩
  | [], h => h.elim
  | [_], h => h.2.elim
  | [_, _], h => h.2.2.elim
  | _ :: _ :: _ :: _ :: _, h => h.2.2.2.elim
/-- the parts behind the word -/
theorem rebuild {H : Hp} {p : Addr} : ∀ {nd : Nd} {qs : List Addr} {es : List Nd}, inV (.str nd.word) [.str "var", .str "lit"] = false → inV (.str nd.word) [.str "cast", .str "shl", .str "shr"] = false → nd.wf → H p = some (.tup (.str nd.word :: qs.map V.ref)) → PartsAt H qs es → Likes nd.parts es → ∃ nd', TreeAt H p nd' ∧ Like nd nd'
  | .var _, _, _, h, _, _, _, _, _ => absurd h (by show ¬ true = false; decide)
  | .lit _ _, _, _, h, _, _, _, _, _ => absurd h (by show ¬ true = false; decide)
  | .cast _ _, _, _, _, h, _, _, _, _ => absurd h (by show ¬ true = false; decide)
  | .sh true _ _, _, _, _, h, _, _, _, _ => absurd h (by show ¬ true = false; decide)
  | .sh false _ _, _, _, _, h, _, _, _, _ => absurd h (by show ¬ true = false; decide)
  | .neg e, qs, es, _, _, w, hp, hP, hL => by
    obtain ⟨b, rfl, l⟩ := likes_one hL
    obtain ⟨q, rfl, t⟩ := parts_one hP
    exact ⟨.neg b, ⟨q, hp, t⟩, ⟨l.e.trans w.1, l.wf⟩, l.vs, by simp only [Nd.size, l.sz], rfl⟩
  | .nt e, qs, es, _, _, w, hp, hP, hL => by
    obtain ⟨b, rfl, l⟩ := likes_one hL
    obtain ⟨q, rfl, t⟩ := parts_one hP
    exact ⟨.nt b, ⟨q, hp, t⟩, ⟨l.e.trans w.1, l.wf⟩, l.vs, by simp only [Nd.size, l.sz], rfl⟩
  | .bin o e f, qs, es, _, _, w, hp, hP, hL => by
    obtain ⟨b, c, rfl, l, k⟩ := likes_two hL
    obtain ⟨q, r, rfl, t, u⟩ := parts_two hP
    exact ⟨.bin o b c, ⟨q, r, hp, t, u⟩, ⟨l.e.trans w.1, k.e.trans w.2.1, l.wf, k.wf⟩, by simp only [Nd.vars, l.vs, k.vs], by simp only [Nd.size, l.sz, k.sz], rfl⟩
  | .cmp o e f, qs, es, _, _, w, hp, hP, hL => by
    obtain ⟨b, c, rfl, l, k⟩ := likes_two hL
    obtain ⟨q, r, rfl, t, u⟩ := parts_two hP
    exact ⟨.cmp o b c, ⟨q, r, hp, t, u⟩, ⟨l.e.trans w.1, k.e.trans w.2.1, l.wf, k.wf⟩, by simp only [Nd.vars, l.vs, k.vs], by simp only [Nd.size, l.sz, k.sz], rfl⟩
  | .lg o e f, qs, es, _, _, w, hp, hP, hL => by
    obtain ⟨b, c, rfl, l, k⟩ := likes_two hL
    obtain ⟨q, r, rfl, t, u⟩ := parts_two hP
    exact ⟨.lg o b c, ⟨q, r, hp, t, u⟩, ⟨l.e.trans w.1, k.e.trans w.2.1, l.wf, k.wf⟩, by simp only [Nd.vars, l.vs, k.vs], by simp only [Nd.size, l.sz, k.sz], rfl⟩
  | .ite e f g, qs, es, _, _, w, hp, hP, hL => by
    obtain ⟨b, c, d, rfl, l, k, j⟩ := likes_three hL
    obtain ⟨q, r, s, rfl, t, u, v⟩ := parts_three hP
    exact ⟨.ite b c d, ⟨q, r, s, hp, t, u, v⟩, ⟨l.e.trans w.1, k.e.trans w.2.1, j.e.trans w.2.2.1, l.wf, k.wf, j.wf⟩, by simp only [Nd.vars, l.vs, k.vs, j.vs], by simp only [Nd.size, l.sz, k.sz, j.sz], rfl⟩
/-! ## data of trees -/
theorem kd_ok (k : Kd) : PyData.strOk k.s = true := by cases k <;> decide +kernel
theorem suf_ok {s : Str} (h : s ∈ sufs) : PyData.strOk s = true := by
  simp only [sufs, List.mem_cons, List.not_mem_nil, or_false] at h
  rcases h with rfl | rfl | rfl | rfl | rfl | rfl <;> decide +kernel
theorem nd_lay : ∀ {nd : Nd}, nd.wf → (∀ x ∈ nd.vars, PyData.strOk x = true) → nd.dat.canLay0 = true
  | .var x, _, h => by
    have := h x (List.mem_cons_self ..)
    simp only [Nd.dat, PyData.canLay0, PyData.canLayAll0, this, Bool.and_true]
    decide +kernel
  | .lit n s, w, _ => by
    simp only [Nd.dat, PyData.canLay0, PyData.canLayAll0, suf_ok w.2.2, Bool.and_true]
    decide +kernel
  | .cast k e, w, h => by
    simp only [Nd.dat, PyData.canLay0, PyData.canLayAll0, kd_ok, nd_lay w.2 h, Bool.and_true]
    decide +kernel
  | .neg e, w, h => by
    simp only [Nd.dat, PyData.canLay0, PyData.canLayAll0, nd_lay w.2 h, Bool.and_true]
    decide +kernel
  | .nt e, w, h => by
    simp only [Nd.dat, PyData.canLay0, PyData.canLayAll0, nd_lay w.2 h, Bool.and_true]
    decide +kernel
  | .sh b e k, w, h => by
    simp only [Nd.dat, PyData.canLay0, PyData.canLayAll0, nd_lay w.2.1 h, Bool.and_true]
    cases b <;> decide +kernel
  | .bin o e f, w, h => by
    simp only [Nd.dat, PyData.canLay0, PyData.canLayAll0, nd_lay w.2.2.1 (fun x hx => h x (List.mem_append_left _ hx)), nd_lay w.2.2.2 (fun x hx => h x (List.mem_append_right _ hx)), Bool.and_true]
    cases o <;> decide +kernel
  | .cmp o e f, w, h => by
    simp only [Nd.dat, PyData.canLay0, PyData.canLayAll0, nd_lay w.2.2.1 (fun x hx => h x (List.mem_append_left _ hx)), nd_lay w.2.2.2 (fun x hx => h x (List.mem_append_right _ hx)), Bool.and_true]
    cases o <;> decide +kernel
  | .lg o e f, w, h => by
    simp only [Nd.dat, PyData.canLay0, PyData.canLayAll0, nd_lay w.2.2.1 (fun x hx => h x (List.mem_append_left _ hx)), nd_lay w.2.2.2 (fun x hx => h x (List.mem_append_right _ hx)), Bool.and_true]
    cases o <;> decide +kernel
  | .ite e f g, w, h => by
    simp only [Nd.dat, PyData.canLay0, PyData.canLayAll0, nd_lay w.2.2.2.1 (fun x hx => h x (List.mem_append_left _ hx)), nd_lay w.2.2.2.2.1 (fun x hx => h x (List.mem_append_right _ (List.mem_append_left _ hx))), nd_lay w.2.2.2.2.2 (fun x hx => h x (List.mem_append_right _ (List.mem_append_right _ hx))), Bool.and_true]
    decide +kernel
theorem nd_depth : ∀ nd : Nd, nd.dat.depth ≤ nd.size
  | .var _ => by simp [Nd.dat, PyData.depth, PyData.depthAll, Nd.size]
  | .lit _ _ => by simp [Nd.dat, PyData.depth, PyData.depthAll, Nd.size]
  | .cast _ e => by have := nd_depth e; simp [Nd.dat, PyData.depth, PyData.depthAll, Nd.size]; omega
  | .neg e => by have := nd_depth e; simp [Nd.dat, PyData.depth, PyData.depthAll, Nd.size]; omega
  | .nt e => by have := nd_depth e; simp [Nd.dat, PyData.depth, PyData.depthAll, Nd.size]; omega
  | .sh _ e _ => by have := nd_depth e; simp [Nd.dat, PyData.depth, PyData.depthAll, Nd.size]; omega
  | .bin _ e f => by have := nd_depth e; have := nd_depth f; simp [Nd.dat, PyData.depth, PyData.depthAll, Nd.size]; omega
  | .cmp _ e f => by have := nd_depth e; have := nd_depth f; simp [Nd.dat, PyData.depth, PyData.depthAll, Nd.size]; omega
  | .lg _ e f => by have := nd_depth e; have := nd_depth f; simp [Nd.dat, PyData.depth, PyData.depthAll, Nd.size]; omega
  | .ite e f g => by have := nd_depth e; have := nd_depth f; have := nd_depth g; simp [Nd.dat, PyData.depth, PyData.depthAll, Nd.size]; omega
theorem parts_dp {K : PySem.W.Frag} {H : Hp} : ∀ {qs : List Addr} {es : List Nd}, PartsAt H qs es → DpAll K H (qs.map V.ref) (es.map Nd.dat)
  | [], [], _ => .nil
  | _ :: _, _ :: _, h => .cons h.1.dp (parts_dp h.2)
  | [], _ :: _, h => h.elim
  | _ :: _, [], h => h.elim
theorem nds_lay : ∀ {es : List Nd}, (∀ e ∈ es, e.wf ∧ ∀ x ∈ e.vars, PyData.strOk x = true) → PyData.canLayAll0 (es.map Nd.dat) = true
  | [], _ => by simp [PyData.canLayAll0]
  | e :: es, h => by
    have h1 := h e (List.mem_cons_self ..)
    have ih := nds_lay (es := es) fun x hx => h x (List.mem_cons_of_mem _ hx)
    simp [PyData.canLayAll0, nd_lay h1.1 h1.2, ih]
theorem nds_depth : ∀ es : List Nd, PyData.depthAll (es.map Nd.dat) ≤ sumSz es
  | [] => by simp [PyData.depthAll]
  | e :: es => by
    have h1 := nd_depth e
    have ih := nds_depth es
    simp only [List.map_cons, PyData.depthAll, sumSz]
    omega
theorem nds_shaped {es : List Nd} (h : ∀ e ∈ es, e.wf ∧ ∀ x ∈ e.vars, PyData.strOk x = true) (hs : sumSz es ≤ 60) : SeqAt.shaped (.list (es.map Nd.dat)) = true := by
  have h1 := nds_depth es
  show (PyData.canLay0 (.list (es.map Nd.dat)) && decide (PyData.depth (.list (es.map Nd.dat)) ≤ 64)) = true
  rw [Bool.and_eq_true]
  refine ⟨by simp only [PyData.canLay0]; exact nds_lay h, decide_eq_true ?_⟩
  simp only [PyData.depth]
  omega
theorem nds_nil (es : List Nd) : PyData.eqv (.list (es.map Nd.dat)) (.list []) = decide (es = []) := by cases es <;> simp [PyData.eqv, PyData.eqvAll]
theorem parts_vars : ∀ {nd : Nd} {e : Nd}, e ∈ nd.parts → ∀ x ∈ e.vars, x ∈ nd.vars
  | .var _, _, h, _, _ => nomatch h
  | .lit _ _, _, h, _, _ => nomatch h
  | .cast _ a, e, h, x, hx => by simp only [Nd.parts, List.mem_cons, List.not_mem_nil, or_false] at h; rw [h] at hx; exact hx
  | .neg a, e, h, x, hx => by simp only [Nd.parts, List.mem_cons, List.not_mem_nil, or_false] at h; rw [h] at hx; exact hx
  | .nt a, e, h, x, hx => by simp only [Nd.parts, List.mem_cons, List.not_mem_nil, or_false] at h; rw [h] at hx; exact hx
  | .sh _ a _, e, h, x, hx => by simp only [Nd.parts, List.mem_cons, List.not_mem_nil, or_false] at h; rw [h] at hx; exact hx
  | .bin _ a b, e, h, x, hx => by
    simp only [Nd.parts, List.mem_cons, List.not_mem_nil, or_false] at h
    rcases h with rfl | rfl
    · exact List.mem_append_left _ hx
    · exact List.mem_append_right _ hx
  | .cmp _ a b, e, h, x, hx => by
    simp only [Nd.parts, List.mem_cons, List.not_mem_nil, or_false] at h
    rcases h with rfl | rfl
    · exact List.mem_append_left _ hx
    · exact List.mem_append_right _ hx
  | .lg _ a b, e, h, x, hx => by
    simp only [Nd.parts, List.mem_cons, List.not_mem_nil, or_false] at h
    rcases h with rfl | rfl
    · exact List.mem_append_left _ hx
    · exact List.mem_append_right _ hx
  | .ite a b c, e, h, x, hx => by
    simp only [Nd.parts, List.mem_cons, List.not_mem_nil, or_false] at h
    rcases h with rfl | rfl | rfl
    · exact List.mem_append_left _ hx
    · exact List.mem_append_right _ (List.mem_append_left _ hx)
    · exact List.mem_append_right _ (List.mem_append_right _ hx)
def spPut (K : PySem.W.Frag) (d : Nat) : Sp := fun vs H Q _ => ∃ r p sch n nd m, vs = [.ref r, .ref p, .ref sch] ∧ nd.size ≤ d ∧ nd.size ≤ 30 ∧ n + 6 * nd.size < 2 ^ 45 ∧ Rng H r n ∧ TreeAt H p nd ∧ nd.wf ∧ (∀ x ∈ nd.vars, PyData.strOk x = true) ∧ AtM K H sch m ∧ m.Ok ∧
  ∀ p' nd' H', Bu r H H' → Rng H' r (n + 6 * nd.size) → TreeAt H' p' nd' → Like nd nd' → Q (.ref p') H'
theorem put_shape : ∀ nd : Nd, (∃ k e, nd = .cast k e) ∨ (∃ b e k, nd = .sh b e k) ∨ (nd.word ≠ "cast" ∧ inV (.str nd.word) [.str "shl", .str "shr"] = false ∧ (nd.parts = [] ∨ (inV (.str nd.word) [.str "var", .str "lit"] = false ∧ inV (.str nd.word) [.str "cast", .str "shl", .str "shr"] = false ∧ nd.parts ≠ [])))
  | .cast k e => .inl ⟨k, e, rfl⟩
  | .sh b e k => .inr (.inl ⟨b, e, k, rfl⟩)
  | .var _ => .inr (.inr ⟨by show ("var" : Str) ≠ "cast"; decide, rfl, .inl rfl⟩)
  | .lit _ _ => .inr (.inr ⟨by show ("lit" : Str) ≠ "cast"; decide, rfl, .inl rfl⟩)
  | .neg _ => .inr (.inr ⟨by show ("neg" : Str) ≠ "cast"; decide, rfl, .inr ⟨rfl, rfl, fun z => nomatch z⟩⟩)
  | .nt _ => .inr (.inr ⟨by show ("not" : Str) ≠ "cast"; decide, rfl, .inr ⟨rfl, rfl, fun z => nomatch z⟩⟩)
  | .ite _ _ _ => .inr (.inr ⟨by show ("if" : Str) ≠ "cast"; decide, rfl, .inr ⟨rfl, rfl, fun z => nomatch z⟩⟩)
  | .bin o _ _ => .inr (.inr ⟨by cases o <;> (show (_ : Str) ≠ "cast") <;> simp only [Nd.word, Bo.s] <;> decide, by cases o <;> rfl, .inr ⟨by cases o <;> rfl, by cases o <;> rfl, fun z => nomatch z⟩⟩)
  | .cmp b _ _ => .inr (.inr ⟨by cases b <;> (show (_ : Str) ≠ "cast") <;> simp only [Nd.word, cmpS] <;> decide, by cases b <;> rfl, .inr ⟨by cases b <;> rfl, by cases b <;> rfl, fun z => nomatch z⟩⟩)
  | .lg b _ _ => .inr (.inr ⟨by cases b <;> (show (_ : Str) ≠ "cast") <;> simp only [Nd.word, lgS] <;> decide, by cases b <;> rfl, .inr ⟨by cases b <;> rfl, by cases b <;> rfl, fun z => nomatch z⟩⟩)
theorem word_not : ∀ nd : Nd, (∃ n s, nd = .lit n s) ∨ nd.word ≠ "lit" := fun nd => by
  by_cases h : nd.word = "lit"
  · exact .inl (word_lit h)
  · exact .inr h
theorem likes_len : ∀ {as bs : List Nd}, Likes as bs → as.length = bs.length
  | [], [], _ => rfl
  | _ :: _, _ :: _, h => by rw [List.length_cons, List.length_cons, likes_len h.2]
  | [], _ :: _, h => h.elim
  | _ :: _, [], h => h.elim
theorem likes_mem : ∀ {as bs : List Nd}, Likes as bs → ∀ b ∈ bs, ∃ a ∈ as, Like a b
  | [], [], _, b, h => nomatch h
  | a :: as, b :: bs, h, c, hc => by
    rcases List.mem_cons.mp hc with rfl | hc
    · exact ⟨a, List.mem_cons_self .., h.1⟩
    · obtain ⟨x, h1, h2⟩ := likes_mem h.2 c hc
      exact ⟨x, List.mem_cons_of_mem _ h1, h2⟩
  | [], _ :: _, h, _, _ => h.elim
  | _ :: _, [], h, _, _ => h.elim
theorem likes_sum : ∀ {as bs : List Nd}, Likes as bs → sumSz bs = sumSz as
  | [], [], _ => rfl
  | _ :: _, _ :: _, h => by simp only [sumSz, h.1.sz, likes_sum h.2]
  | [], _ :: _, h => h.elim
  | _ :: _, [], h => h.elim
theorem shl1_raw {b : Nat} (h : b ≤ 128) {H : Hp} {Q : VK} (k : ∀ H', Ex H H' → Q (.int (2 ^ b)) H') : rI CPow (fun i j => .int (i * 2 ^ j.toNat)) (.int 1) (.int (b : Int)) H Q := shl1 (σ := []) h ev_c ev_c H (Ex.refl H) Q k
theorem cat_new {K : PySem.W.Frag} {t u : Addr} {xs ys : List V} {H : Hp} {Q : VK} (h1 : SqT K H t xs) (h2 : SqT K H u ys) (hx : xs ≠ []) (hy : ys ≠ []) (hz : xs.length + ys.length ≤ 100000) (k : ∀ p H', Ex H H' → H' p = some (.tup (xs ++ ys)) → Q (.ref p) H') : rCatA K (.ref t) (.ref u) H Q :=
  ⟨t, u, xs, ys, rfl, rfl, h1, h2, sz_of hz, fun h => absurd h hx, fun _ h => absurd h hy, fun _ _ p hp => k p _ (Ex.new hp) upd_same⟩
end Cf

namespace Cf
open PySem PySem.Spec PyProof.Rows L2 Evl
/-! ## enumerate(zip(a, b)) over two lists: zip's own tuple may be out, alive or gone -/
abbrev ZSt (h : Heap) (z TI TO : Addr) (q : Value) (g : Bool) : Prop :=
  h.get? z = some { cls := .type "zip", dict := none, data := .fields #[q, .bool g, .bool false, .ref TI, .ref TO], slots := #[] }
def ZOk (q : Value) : Prop := q = .none ∨ ∃ n : Nat, q = rawInt n
section
variable {pr : Program} {wo : World} {Ar : Around} {Er : Value → Shared → Prop} {st : Shared}
theorem zFree {z TI TO : Addr} {q : Value} {g : Bool} {R : Bool → Shared → Prop} (hz : ZSt st.heap z TI TO q g) (zo : ZOk q) (k : ∀ b h' g', ZSt h' z TI TO q g' → Heap.SameBut z st.heap h' → R b { st with heap := h' }) :
    wpAny (model pr wo) Ar (Builtin.SmallTypes.ownedTupleIsFree (.ref z)) R Er st := by
  unfold Builtin.SmallTypes.ownedTupleIsFree
  have kk := k true st.heap g hz (Heap.SameBut.refl _ _)
  rcases zo with rfl | ⟨n, rfl⟩
  · exact wpAny_bind (wpAny_field hz rfl (x := .none) rfl (wpAny_pure kk))
  · refine wpAny_bind (wpAny_field hz rfl (x := rawInt n) rfl ?_)
    show wpAny _ _ (loadIfAlive ((n : Int).toNat) >>= _) _ _ _
    rw [Int.toNat_natCast]
    have al : ∀ {R2 : Option Obj → Shared → Prop}, R2 (st.heap.get? n) st → wpAny (model pr wo) Ar (loadIfAlive n) R2 Er st := fun h => fun _ _ _ => h
    refine wpAny_bind (al ?_)
    cases hn : st.heap.get? n with
    | none =>
      simp only [Option.isNone_none, if_true]
      exact wpAny_pure kk
    | some o =>
      simp only [Option.isNone_some, Bool.false_eq_true, if_false]
      refine wpAny_bind (wpAny_field hz rfl (x := .bool g) rfl ?_)
      cases g with
      | true =>
        rw [if_neg (show ¬ ((Value.bool true != Value.bool true) = true) from Bool.false_ne_true)]
        exact wpAny_pure (k false st.heap true hz (Heap.SameBut.refl _ _))
      | false =>
        rw [if_pos (show (Value.bool false != Value.bool true) = true from rfl)]
        exact wpAny_bind (wpAny_setField_rec hz (by simp) fun ha hza hsa => wpAny_pure (k false ha true hza hsa))
theorem zGo {z TI TO j1 j2 a1 a2 : Addr} {n1 n2 : Nat} {xs ys : Array Value} {x y u v q : Value} {g : Bool} {R : Value → Shared → Prop} (D : ZipApart z TI TO j1 j2 a1 a2)
    (hz : ZSt st.heap z TI TO q g) (zo : ZOk q) (hI : IsPair st.heap TI (.ref j1) (.ref j2)) (hO : IsPair st.heap TO u v)
    (m1 : st.heap.IsListIter j1 a1 n1) (m2 : st.heap.IsListIter j2 a2 n2) (la : st.heap.IsList a1 xs) (lb : st.heap.IsList a2 ys) (hx : xs[n1]? = some x) (hy : ys[n2]? = some y)
    (k : ∀ h' q' g', ZSt h' z TI TO q' g' → ZOk q' → (∃ u v, IsPair h' TO u v) → h'.IsListIter j1 a1 (n1 + 1) → h'.IsListIter j2 a2 (n2 + 1) → IsPair h' st.heap.objs.size x y → h'.objs.size = st.heap.objs.size + 1 →
      (∀ b o, b ≠ z → b ≠ TO → b ≠ j1 → b ≠ j2 → st.heap.get? b = some o → h'.get? b = some o) → R (.ref st.heap.objs.size) { st with heap := h' }) :
    wpAny (model pr wo) Ar (Builtin.«zip.__next__» ⟨[.ref z], []⟩) (fun fin s' => ∃ r, fin = .done (.ret r) ∧ R r s') Er st := by
  show wpAny _ _ (field (.ref z) 2 >>= _) _ _ _
  refine wpAny_bind (wpAny_field hz rfl (x := .bool false) rfl ?_)
  show wpAny _ _ (field (.ref z) 3 >>= _) _ _ _
  refine wpAny_bind (wpAny_field hz rfl (x := .ref TI) rfl ?_)
  refine wpAny_bind (wpAny_seqItems hI rfl ?_)
  show wpAny _ _ (Builtin.SmallTypes.ownedTupleIsFree (.ref z) >>= _) _ _ _
  refine wpAny_bind (zFree hz zo fun b ha g' za sa => ?_)
  cases b with
  | true =>
    simp only [if_true]
    refine wpAny_bind (wpAny_rule ?_)
    refine wpAny_bind (wpAny_field za rfl (x := .ref TO) rfl ?_)
    refine wpAny_bind (wpAny_setField_rec za (by simp) fun hb zb sb => ?_)
    replace zb : ZSt hb z TI TO .ellipsis g' := zb
    have sab : ∀ {b o}, b ≠ z → st.heap.get? b = some o → hb.get? b = some o := fun n e => sb.extBut _ _ n (sa.extBut _ _ n e)
    refine wpAny_bind ?_
    simp only [List.zipIdx_cons, List.zipIdx_nil, List.forIn_cons, List.forIn_nil]
    refine wpAny_bind (wpAny_bind (wpAny_onRaise ?_))
    show wpAny _ _ (Builtin.SmallTypes.nextOf (.ref j1) >>= _) _ _ _
    refine wpAny_bind (wpAny_nextOf_list_item (m1.at fun o e => sab D.i1z e) (la.at fun o e => sab D.l1z e) hx fun hc m1c sc => wpAny_pure ?_)
    have Oc : IsPair hc TO u v := sc.extBut _ _ D.TOi1 (sab D.TOz hO)
    refine wpAny_bind (wpAny_seqItems Oc rfl ?_)
    refine wpAny_bind (wpAny_updateSeq_pair Oc fun hd Od sd => ?_)
    replace Od : IsPair hd TO x v := Od
    refine wpAny_bind (wpAny_letGo (wpAny_pure ?_))
    refine wpAny_bind (wpAny_bind (wpAny_onRaise ?_))
    show wpAny _ _ (Builtin.SmallTypes.nextOf (.ref j2) >>= _) _ _ _
    have sad : ∀ {b o}, b ≠ z → b ≠ j1 → b ≠ TO → st.heap.get? b = some o → hd.get? b = some o := fun n1 n2 n3 e => sd.extBut _ _ n3 (sc.extBut _ _ n2 (sab n1 e))
    refine wpAny_bind (wpAny_nextOf_list_item (m2.at fun o e => sad D.i2z D.i12.symm D.TOi2.symm e) (lb.at fun o e => sad D.l2z D.l2i1 D.l2TO e) hy fun he m2e se => wpAny_pure ?_)
    have Oe : IsPair he TO x v := se.extBut _ _ D.TOi2 Od
    refine wpAny_bind (wpAny_seqItems Oe rfl ?_)
    refine wpAny_bind (wpAny_updateSeq_pair Oe fun hf Of sf => ?_)
    replace Of : IsPair hf TO x y := Of
    refine wpAny_bind (wpAny_letGo (wpAny_pure (wpAny_pure ?_)))
    refine wpAny_bind (wpAny_seqItems Of rfl ?_)
    refine wpAny_bind (wpAny_newTuple ?_)
    have zz : hf.objs.size = st.heap.objs.size := by rw [sf.1, se.1, sd.1, sc.1, sb.1, sa.1]
    have zf : ZSt hf z TI TO .ellipsis g' := sf.extBut _ _ D.TOz.symm (se.extBut _ _ D.i2z.symm (sd.extBut _ _ D.TOz.symm (sc.extBut _ _ D.i1z.symm zb)))
    have kf : ∀ b o, b ≠ z → b ≠ TO → b ≠ j1 → b ≠ j2 → st.heap.get? b = some o → hf.get? b = some o := fun b o n1 n2 n3 n4 e => sf.extBut _ _ n2 (se.extBut _ _ n4 (sad n1 n3 n2 e))
    have m1f : hf.IsListIter j1 a1 (n1 + 1) := m1c.at fun o e => sf.extBut _ _ D.TOi1.symm (se.extBut _ _ D.i12 (sd.extBut _ _ D.TOi1.symm e))
    have m2f : hf.IsListIter j2 a2 (n2 + 1) := m2e.at fun o e => sf.extBut _ _ D.TOi2.symm e
    have zlt : z < hf.objs.size := Heap.lt_size zf
    show wpAny _ _ (Builtin.SmallTypes.ownedTupleHandOut (.ref z) (.ref hf.objs.size) >>= _) _ _ _
    refine wpAny_bind ?_
    unfold Builtin.SmallTypes.ownedTupleHandOut
    have zg : ZSt (hf.push { cls := .type "tuple", data := .seq #[x, y] }) z TI TO .ellipsis g' := Heap.get?_push_of_some _ zf
    refine wpAny_bind (wpAny_setField_rec zg (by simp) fun hh zh sh => ?_)
    replace zh : ZSt hh z TI TO (rawInt hf.objs.size) g' := zh
    refine wpAny_setField_rec zh (by simp) fun hi zi si => ?_
    replace zi : ZSt hi z TI TO (rawInt hf.objs.size) false := zi
    have up : ∀ b o, b ≠ z → hf.get? b = some o → hi.get? b = some o := fun b o n e => si.extBut _ _ n (sh.extBut _ _ n (Heap.get?_push_of_some _ e))
    have Ti : IsPair hi hf.objs.size x y := si.extBut _ _ (Nat.ne_of_gt zlt) (sh.extBut _ _ (Nat.ne_of_gt zlt) (Heap.get?_push_size _ rfl))
    have zzi : hi.objs.size = hf.objs.size + 1 := by rw [si.1, sh.1, Heap.size_push]
    rw [zz] at Ti zzi
    refine wpAny_pure ⟨_, rfl, ?_⟩
    show R (.ref hf.objs.size) _
    rw [zz]
    exact k hi _ _ zi (.inr ⟨_, rfl⟩) ⟨x, y, up _ _ D.TOz Of⟩ (m1f.at fun o e => up _ o D.i1z e) (m2f.at fun o e => up _ o D.i2z e) Ti zzi fun b o n1 n2 n3 n4 e => up b o n1 (kf b o n1 n2 n3 n4 e)
  | false =>
    simp only [Bool.false_eq_true, if_false]
    refine wpAny_bind ?_
    rw [← Array.forIn_toList]
    simp only [List.forIn_cons, List.forIn_nil]
    refine wpAny_bind (wpAny_bind (wpAny_holding ?_))
    show wpAny _ _ (Builtin.SmallTypes.nextOf (.ref j1) >>= _) _ _ _
    refine wpAny_bind (wpAny_nextOf_list_item (s := { st with heap := ha }) (m1.at fun o e => sa.extBut _ _ D.i1z e) (la.at fun o e => sa.extBut _ _ D.l1z e) hx fun hb m1b sb => wpAny_pure ?_)
    refine wpAny_pure ?_
    refine wpAny_bind (wpAny_bind (wpAny_holding ?_))
    show wpAny _ _ (Builtin.SmallTypes.nextOf (.ref j2) >>= _) _ _ _
    refine wpAny_bind (wpAny_nextOf_list_item (s := { st with heap := hb }) (m2.at fun o e => sb.extBut _ _ D.i12.symm (sa.extBut _ _ D.i2z e)) (lb.at fun o e => sb.extBut _ _ D.l2i1 (sa.extBut _ _ D.l2z e)) hy fun hc m2c sc => wpAny_pure ?_)
    refine wpAny_pure (wpAny_pure ?_)
    show wpAny _ _ (newTuple [x, y] >>= _) _ _ _
    refine wpAny_bind (wpAny_newTuple ?_)
    have zz : hc.objs.size = st.heap.objs.size := by rw [sc.1, sb.1, sa.1]
    have zc : ZSt hc z TI TO q g' := sc.extBut _ _ D.i2z.symm (sb.extBut _ _ D.i1z.symm za)
    have kc : ∀ b o, b ≠ z → b ≠ j1 → b ≠ j2 → st.heap.get? b = some o → hc.get? b = some o := fun b o n1 n2 n3 e => sc.extBut _ _ n3 (sb.extBut _ _ n2 (sa.extBut _ _ n1 e))
    refine wpAny_pure ⟨_, rfl, ?_⟩
    show R (.ref hc.objs.size) _
    have Tp : IsPair (hc.push { cls := .type "tuple", data := .seq #[x, y] }) hc.objs.size x y := Heap.get?_push_size _ rfl
    have zp : (hc.push { cls := .type "tuple", data := .seq #[x, y] }).objs.size = hc.objs.size + 1 := Heap.size_push ..
    have Oc : IsPair hc TO u v := kc _ _ D.TOz D.TOi1 D.TOi2 hO
    rw [zz] at Tp zp ⊢
    exact k _ _ _ (Heap.get?_push_of_some _ zc) zo ⟨u, v, Heap.get?_push_of_some _ Oc⟩ (m1b.at fun o e => Heap.get?_push_of_some _ (sc.extBut _ _ D.i12 e)) (m2c.at fun o e => Heap.get?_push_of_some _ e) Tp zp fun b o n1 n2 n3 n4 e => Heap.get?_push_of_some _ (kc b o n1 n3 n4 e)
theorem zEnd {z TI TO j1 j2 a1 a2 : Addr} {n1 n2 : Nat} {xs ys : Array Value} {u v q : Value} {g : Bool} {R : Fin → Shared → Prop} (hh : Ar.handled = none) (D : ZipApart z TI TO j1 j2 a1 a2)
    (hz : ZSt st.heap z TI TO q g) (zo : ZOk q) (hI : IsPair st.heap TI (.ref j1) (.ref j2)) (hO : IsPair st.heap TO u v)
    (m1 : st.heap.IsListIter j1 a1 n1) (m2 : st.heap.IsListIter j2 a2 n2) (la : st.heap.IsList a1 xs) (lb : st.heap.IsList a2 ys) (hn : xs[n1]? = none ∨ ys[n2]? = none)
    (k : ∀ h' e, (∀ b o, b ≠ z → b ≠ TO → b ≠ j1 → b ≠ j2 → st.heap.get? b = some o → h'.get? b = some o) → (∃ o, h'.get? e = some o ∧ o.cls = .type "StopIteration") → Er (.ref e) { st with heap := h' }) :
    wpAny (model pr wo) Ar (Builtin.«zip.__next__» ⟨[.ref z], []⟩) R Er st := by
  show wpAny _ _ (field (.ref z) 2 >>= _) _ _ _
  refine wpAny_bind (wpAny_field hz rfl (x := .bool false) rfl ?_)
  show wpAny _ _ (field (.ref z) 3 >>= _) _ _ _
  refine wpAny_bind (wpAny_field hz rfl (x := .ref TI) rfl ?_)
  refine wpAny_bind (wpAny_seqItems hI rfl ?_)
  show wpAny _ _ (Builtin.SmallTypes.ownedTupleIsFree (.ref z) >>= _) _ _ _
  refine wpAny_bind (zFree hz zo fun b ha g' za sa => ?_)
  cases b with
  | true =>
    simp only [if_true]
    refine wpAny_bind (wpAny_rule ?_)
    refine wpAny_bind (wpAny_field za rfl (x := .ref TO) rfl ?_)
    refine wpAny_bind (wpAny_setField_rec za (by simp) fun hb zb sb => ?_)
    replace zb : ZSt hb z TI TO .ellipsis g' := zb
    have sab : ∀ {b o}, b ≠ z → st.heap.get? b = some o → hb.get? b = some o := fun n e => sb.extBut _ _ n (sa.extBut _ _ n e)
    refine wpAny_bind ?_
    simp only [List.zipIdx_cons, List.zipIdx_nil, List.forIn_cons, List.forIn_nil]
    refine wpAny_bind (wpAny_bind (wpAny_onRaise ?_))
    show wpAny _ _ (Builtin.SmallTypes.nextOf (.ref j1) >>= _) _ _ _
    cases hx : xs[n1]? with
    | none =>
      refine wpAny_bind (wpAny_nextOf_list_end hh (m1.at fun o e => sab D.i1z e) (la.at fun o e => sab D.l1z e) hx fun hc ex sc hex => ?_)
      obtain ⟨oe, hoe, hce⟩ := hex
      have zc : ZSt hc z TI TO .ellipsis g' := sc _ _ D.i1z.symm zb
      have nez : ex ≠ z := fun w => by subst w; rw [zc] at hoe; cases hoe; simp at hce
      exact wpAny_setField_rec zc (by simp) fun hd _ sd => k hd ex (fun b o n1 _ n3 _ e => sd.extBut _ _ n1 (sc _ _ n3 (sab n1 e))) ⟨oe, sd.extBut _ _ nez hoe, hce⟩
    | some x =>
      have hy : ys[n2]? = none := by rcases hn with w | w; rw [hx] at w; cases w; exact w
      refine wpAny_bind (wpAny_nextOf_list_item (m1.at fun o e => sab D.i1z e) (la.at fun o e => sab D.l1z e) hx fun hc m1c sc => wpAny_pure ?_)
      have Oc : IsPair hc TO u v := sc.extBut _ _ D.TOi1 (sab D.TOz hO)
      refine wpAny_bind (wpAny_seqItems Oc rfl ?_)
      refine wpAny_bind (wpAny_updateSeq_pair Oc fun hd Od sd => ?_)
      refine wpAny_bind (wpAny_letGo (wpAny_pure ?_))
      refine wpAny_bind (wpAny_bind (wpAny_onRaise ?_))
      show wpAny _ _ (Builtin.SmallTypes.nextOf (.ref j2) >>= _) _ _ _
      have sad : ∀ {b o}, b ≠ z → b ≠ j1 → b ≠ TO → st.heap.get? b = some o → hd.get? b = some o := fun n1 n2 n3 e => sd.extBut _ _ n3 (sc.extBut _ _ n2 (sab n1 e))
      refine wpAny_bind (wpAny_nextOf_list_end hh (m2.at fun o e => sad D.i2z D.i12.symm D.TOi2.symm e) (lb.at fun o e => sad D.l2z D.l2i1 D.l2TO e) hy fun he ex se hex => ?_)
      obtain ⟨oe, hoe, hce⟩ := hex
      have ze : ZSt he z TI TO .ellipsis g' := se _ _ D.i2z.symm (sd.extBut _ _ D.TOz.symm (sc.extBut _ _ D.i1z.symm zb))
      have nez : ex ≠ z := fun w => by subst w; rw [ze] at hoe; cases hoe; simp at hce
      exact wpAny_setField_rec ze (by simp) fun hf _ sf => k hf ex (fun b o n1 n2 n3 n4 e => sf.extBut _ _ n1 (se _ _ n4 (sad n1 n3 n2 e))) ⟨oe, sf.extBut _ _ nez hoe, hce⟩
  | false =>
    simp only [Bool.false_eq_true, if_false]
    refine wpAny_bind ?_
    rw [← Array.forIn_toList]
    simp only [List.forIn_cons, List.forIn_nil]
    refine wpAny_bind (wpAny_bind (wpAny_holding ?_))
    show wpAny _ _ (Builtin.SmallTypes.nextOf (.ref j1) >>= _) _ _ _
    cases hx : xs[n1]? with
    | none =>
      refine wpAny_bind (wpAny_nextOf_list_end (s := { st with heap := ha }) hh (m1.at fun o e => sa.extBut _ _ D.i1z e) (la.at fun o e => sa.extBut _ _ D.l1z e) hx fun hb ex sb hex => ?_)
      exact k hb ex (fun b o n1 _ n3 _ e => sb _ _ n3 (sa.extBut _ _ n1 e)) hex
    | some x =>
      have hy : ys[n2]? = none := by rcases hn with w | w; rw [hx] at w; cases w; exact w
      refine wpAny_bind (wpAny_nextOf_list_item (s := { st with heap := ha }) (m1.at fun o e => sa.extBut _ _ D.i1z e) (la.at fun o e => sa.extBut _ _ D.l1z e) hx fun hb m1b sb => wpAny_pure ?_)
      refine wpAny_pure ?_
      refine wpAny_bind (wpAny_bind (wpAny_holding ?_))
      show wpAny _ _ (Builtin.SmallTypes.nextOf (.ref j2) >>= _) _ _ _
      refine wpAny_bind (wpAny_nextOf_list_end (s := { st with heap := hb }) hh (m2.at fun o e => sb.extBut _ _ D.i12.symm (sa.extBut _ _ D.i2z e)) (lb.at fun o e => sb.extBut _ _ D.l2i1 (sa.extBut _ _ D.l2z e)) hy fun hc ex sc hex => ?_)
      exact k hc ex (fun b o n1 _ n3 n4 e => sc _ _ n4 (sb.extBut _ _ n3 (sa.extBut _ _ n1 e))) hex
end
end Cf

namespace Cf
open PySem PySem.Spec PyProof.Rows L2 Evl
section
variable {pr : Program} {wo : World} {Ar : Around} {Er : Value → Shared → Prop} {st : Shared}
theorem zNext {z TI TO j1 j2 a1 a2 : Addr} {n1 n2 : Nat} {xs ys : Array Value} {x y u v q : Value} {g : Bool} {R : Value → Shared → Prop} (D : ZipApart z TI TO j1 j2 a1 a2)
    (hz : ZSt st.heap z TI TO q g) (zo : ZOk q) (hI : IsPair st.heap TI (.ref j1) (.ref j2)) (hO : IsPair st.heap TO u v)
    (m1 : st.heap.IsListIter j1 a1 n1) (m2 : st.heap.IsListIter j2 a2 n2) (la : st.heap.IsList a1 xs) (lb : st.heap.IsList a2 ys) (hx : xs[n1]? = some x) (hy : ys[n2]? = some y)
    (k : ∀ h' q' g', ZSt h' z TI TO q' g' → ZOk q' → (∃ u v, IsPair h' TO u v) → h'.IsListIter j1 a1 (n1 + 1) → h'.IsListIter j2 a2 (n2 + 1) → IsPair h' st.heap.objs.size x y → h'.objs.size = st.heap.objs.size + 1 →
      (∀ b o, b ≠ z → b ≠ TO → b ≠ j1 → b ≠ j2 → st.heap.get? b = some o → h'.get? b = some o) → R (.ref st.heap.objs.size) { st with heap := h' }) :
    wpAny (model pr wo) Ar (Builtin.SmallTypes.nextOf (.ref z)) R Er st := by
  have hT : st.TypeIs (.ref z) "zip" := ⟨_, hz, rfl⟩
  unfold Builtin.SmallTypes.nextOf
  exact wpAny_bind (wpAny_callSpecial?_slot (name := Str.ofString "__next__") hT F.slot_zip_next (wpAny_call_entry F.slot_zip_next hT F.entry_zip_next
    (zGo D hz zo hI hO m1 m2 la lb hx hy fun h' q' g' a b c d e f i j => wpAny_pure (k h' q' g' a b c d e f i j)) (F.args_zip_next_1 _)))
theorem zStop {z TI TO j1 j2 a1 a2 : Addr} {n1 n2 : Nat} {xs ys : Array Value} {u v q : Value} {g : Bool} {R : Value → Shared → Prop} (hh : Ar.handled = none) (D : ZipApart z TI TO j1 j2 a1 a2)
    (hz : ZSt st.heap z TI TO q g) (zo : ZOk q) (hI : IsPair st.heap TI (.ref j1) (.ref j2)) (hO : IsPair st.heap TO u v)
    (m1 : st.heap.IsListIter j1 a1 n1) (m2 : st.heap.IsListIter j2 a2 n2) (la : st.heap.IsList a1 xs) (lb : st.heap.IsList a2 ys) (hn : xs[n1]? = none ∨ ys[n2]? = none)
    (k : ∀ h' e, (∀ b o, b ≠ z → b ≠ TO → b ≠ j1 → b ≠ j2 → st.heap.get? b = some o → h'.get? b = some o) → (∃ o, h'.get? e = some o ∧ o.cls = .type "StopIteration") → Er (.ref e) { st with heap := h' }) :
    wpAny (model pr wo) Ar (Builtin.SmallTypes.nextOf (.ref z)) R Er st := by
  have hT : st.TypeIs (.ref z) "zip" := ⟨_, hz, rfl⟩
  unfold Builtin.SmallTypes.nextOf
  exact wpAny_bind (wpAny_callSpecial?_slot (name := Str.ofString "__next__") hT F.slot_zip_next (wpAny_call_entry F.slot_zip_next hT F.entry_zip_next
    (zEnd hh D hz zo hI hO m1 m2 la lb hn k) (F.args_zip_next_1 _)))
/-- enumerate's own step, whatever its iterator gives -/
theorem eGo {e z : Addr} {i : Int} {old : Value} {R : Value → Shared → Prop} (he : IsEnum st.heap e z i old)
    (hn : wpAny (model pr wo) Ar (Builtin.SmallTypes.nextOf (.ref z)) (fun x s1 => IsEnum s1.heap e z i old ∧
      ∀ h', IsEnumOut h' e z (i + 1) x s1.heap.objs.size → h'.get? s1.heap.objs.size = some { cls := .type "tuple", data := .seq #[.int i s1.toks, x] } → h'.objs.size = s1.heap.objs.size + 1 →
        (∀ b o, b ≠ e → s1.heap.get? b = some o → h'.get? b = some o) → R (.ref s1.heap.objs.size) { s1 with heap := h', toks := s1.toks + 1 }) Er st) :
    wpAny (model pr wo) Ar (Builtin.«enumerate.__next__» ⟨[.ref e], []⟩) (fun fin s' => ∃ r, fin = .done (.ret r) ∧ R r s') Er st := by
  show wpAny _ _ (field (.ref e) 2 >>= _) _ _ _
  refine wpAny_bind (wpAny_field he rfl (x := .ref z) rfl ?_)
  refine wpAny_bind (thn hn fun x s1 hq => ?_)
  obtain ⟨e1, k⟩ := hq
  obtain ⟨hp, gg, dd, tk, os⟩ := s1
  replace e1 : IsEnum hp e z i old := e1
  replace k : ∀ h', IsEnumOut h' e z (i + 1) x hp.objs.size → h'.get? hp.objs.size = some { cls := .type "tuple", data := .seq #[.int i tk, x] } → h'.objs.size = hp.objs.size + 1 → (∀ b o, b ≠ e → hp.get? b = some o → h'.get? b = some o) → R (.ref hp.objs.size) ⟨h', gg, dd, tk + 1, os⟩ := k
  show wpAny _ _ (field (.ref e) 3 >>= _) _ _ ⟨hp, gg, dd, tk, os⟩
  refine wpAny_bind (wpAny_field e1 rfl (x := rawInt i) rfl ?_)
  show wpAny _ _ (field (.ref e) 4 >>= _) _ _ ⟨hp, gg, dd, tk, os⟩
  refine wpAny_bind (wpAny_field e1 rfl (x := .none) rfl ?_)
  show wpAny _ _ (mkInt i >>= _) _ _ ⟨hp, gg, dd, tk, os⟩
  refine wpAny_bind (wpAny_mkInt ?_)
  show wpAny _ _ (setField (.ref e) 3 (rawInt (i + 1)) >>= _) _ _ ⟨hp, gg, dd, tk + 1, os⟩
  refine wpAny_bind (wpAny_setField_rec e1 (by simp) fun ha ea sa => ?_)
  replace sa : Heap.SameBut e hp ha := sa
  replace ea : IsEnum ha e z (i + 1) old := ea
  show wpAny _ _ (setField (.ref e) 4 .none >>= _) _ _ ⟨ha, gg, dd, tk + 1, os⟩
  refine wpAny_bind (wpAny_setField_rec ea (by simp) fun hb eb sb => ?_)
  replace sb : Heap.SameBut e ha hb := sb
  replace eb : IsEnum hb e z (i + 1) old := eb
  show wpAny _ _ (newTuple [.int i tk, x] >>= _) _ _ ⟨hb, gg, dd, tk + 1, os⟩
  refine wpAny_bind (wpAny_newTuple ?_)
  have zz : hb.objs.size = hp.objs.size := by rw [sb.1, sa.1]
  have elt : e < hp.objs.size := Heap.lt_size e1
  have ec : IsEnum (hb.push { cls := .type "tuple", data := .seq #[.int i tk, x] }) e z (i + 1) old := Heap.get?_push_of_some _ eb
  have tc : (hb.push { cls := .type "tuple", data := .seq #[.int i tk, x] }).get? hp.objs.size = some { cls := .type "tuple", data := .seq #[.int i tk, x] } := by
    rw [← zz]
    exact Heap.get?_push_size _ rfl
  have zc : (hb.push { cls := .type "tuple", data := .seq #[.int i tk, x] }).objs.size = hp.objs.size + 1 := by rw [Heap.size_push, zz]
  have kc : ∀ b o, b ≠ e → hp.get? b = some o → (hb.push { cls := .type "tuple", data := .seq #[.int i tk, x] }).get? b = some o := fun b o n q => Heap.get?_push_of_some _ (sb.extBut b o n (sa.extBut b o n q))
  generalize hb.push { cls := .type "tuple", data := .seq #[.int i tk, x] } = hc at ec tc zc kc
  show wpAny _ _ (Builtin.SmallTypes.ownedTupleIsFree (.ref e) >>= _) _ _ ⟨hc, gg, dd, tk + 1, os⟩
  rw [zz]
  refine wpAny_bind ?_
  unfold Builtin.SmallTypes.ownedTupleIsFree
  refine wpAny_bind (wpAny_field ec rfl (x := .none) rfl (wpAny_pure ?_))
  simp only [if_true]
  refine wpAny_bind (wpAny_rule ?_)
  refine wpAny_bind (wpAny_field ec rfl (x := old) rfl ?_)
  refine wpAny_bind (wpAny_setField_rec ec (by simp) fun hd ed sd => ?_)
  replace sd : Heap.SameBut e hc hd := sd
  replace ed : IsEnum hd e z (i + 1) x := ed
  show wpAny _ _ (Builtin.SmallTypes.ownedTupleHandOut (.ref e) (.ref hp.objs.size) >>= _) _ _ ⟨hd, gg, dd, tk + 1, os⟩
  refine wpAny_bind ?_
  unfold Builtin.SmallTypes.ownedTupleHandOut
  refine wpAny_bind (wpAny_setField_rec ed (by simp) fun hf ef sf => ?_)
  replace sf : Heap.SameBut e hd hf := sf
  replace ef : IsEnumOut hf e z (i + 1) x hp.objs.size := ef
  refine wpAny_setField_rec ef (by simp) fun hg eg sg => ?_
  replace sg : Heap.SameBut e hf hg := sg
  replace eg : IsEnumOut hg e z (i + 1) x hp.objs.size := eg
  have kg : ∀ b o, b ≠ e → hc.get? b = some o → hg.get? b = some o := fun b o n q => sg.extBut b o n (sf.extBut b o n (sd.extBut b o n q))
  refine wpAny_bind (wpAny_letGo (wpAny_pure ⟨_, rfl, k hg eg (kg _ _ (Nat.ne_of_gt elt) tc) ?_ fun b o n q => kg b o n (kc b o n q)⟩))
  rw [sg.1, sf.1, sd.1, zc]
end
end Cf

namespace Cf
open PySem PySem.Spec PyProof.Rows L2 Evl
/-- each turn: the place and a new pair, in a new pair -/
def ItEz (K : PySem.W.Frag) (a b : Addr) : It :=
  ⟨fun i H => ∃ (xs ys : List V) (x y : V), SqL K H a xs ∧ SqL K H b ys ∧ xs[i]? = some x ∧ ys[i]? = some y,
    fun i H v H' => ∃ T1 T2 x y, v = .ref T2 ∧ H T1 = none ∧ H T2 = none ∧ T1 ≠ T2 ∧ H' = upd (upd H T1 (.tup [x, y])) T2 (.tup [.int (i : Nat), .ref T1]) ∧ (∀ xs, SqL K H a xs → xs[i]? = some x) ∧ ∀ ys, SqL K H b ys → ys[i]? = some y,
    fun i H => ∃ xs ys : List V, SqL K H a xs ∧ SqL K H b ys ∧ (xs.length ≤ i ∨ ys.length ≤ i)⟩
structure EApart (e z TI TO j1 j2 a b : Addr) : Prop where
  z : e ≠ z
  TI : e ≠ TI
  TO : e ≠ TO
  j1 : e ≠ j1
  j2 : e ≠ j2
theorem turn_ez {P : Program} {w : World} {K : PySem.W.Frag} {elts : List Expr} {kk : Nat} {tpos : Pos} {e z TI TO j1 j2 a b : Addr} (D : ZipApart z TI TO j1 j2 a b) (Ee : EApart e z TI TO j1 j2 a b) :
    Turn P w K (.Tuple elts kk tpos) (ItEz K a b) [e, z, TI, TO, j1, j2] e (fun i h => (∃ old, IsEnum h e z ((i : Nat) : Int) old) ∧ (∃ q g, ZSt h z TI TO q g ∧ ZOk q) ∧ IsPair h TI (.ref j1) (.ref j2) ∧ (∃ u v, IsPair h TO u v) ∧ h.IsListIter j1 a i ∧ h.IsListIter j2 b i) where
  mem := by simp
  obj := fun i h q c hc => by
    obtain ⟨⟨old, he⟩, ⟨q, g, hz, _⟩, hI, ⟨u, v, hO⟩, ⟨o1, f1, _, d1⟩, ⟨o2, f2, _, d2⟩⟩ := q
    have e' : c = e ∨ c = z ∨ c = TI ∨ c = TO ∨ c = j1 ∨ c = j2 := by simpa using hc
    rcases e' with r | r | r | r | r | r
    · rw [r]
      exact ⟨_, he, fun v q => nomatch q⟩
    · rw [r]
      exact ⟨_, hz, fun v q => nomatch q⟩
    · rw [r]
      exact ⟨_, hI, fun v q => nomatch q⟩
    · rw [r]
      exact ⟨_, hO, fun v q => nomatch q⟩
    · rw [r]
      exact ⟨o1, f1, fun v q => by rw [d1] at q; cases q⟩
    · rw [r]
      exact ⟨o2, f2, fun v q => by rw [d2] at q; cases q⟩
  keep := fun i h h' q k => by
    obtain ⟨⟨old, he⟩, ⟨q, g, hz, zo⟩, hI, ⟨u, v, hO⟩, h1, h2⟩ := q
    exact ⟨⟨old, k e (by simp) _ he⟩, ⟨q, g, k z (by simp) _ hz, zo⟩, k TI (by simp) _ hI, ⟨u, v, k TO (by simp) _ hO⟩, h1.at fun o r => k j1 (by simp) o r, h2.at fun o r => k j2 (by simp) o r⟩
  item := by
    intro X hP hw hK hc i pins s σ H E I hf q hg
    subst hP hw hK
    obtain ⟨⟨old, he⟩, ⟨q, g, hz, zo⟩, hI, ⟨u, v, hO⟩, h1, h2⟩ := q
    obtain ⟨xs, ys, x, y, hqx, hqy, hx, hy⟩ := hg
    obtain ⟨its, rv, p, _⟩ := I.list hqx
    obtain ⟨its2, rv2, p2, _⟩ := I.list hqy
    obtain ⟨c, hu, ru⟩ := rv.get hx
    obtain ⟨d, hu2, ru2⟩ := rv2.get hy
    have hTy : s.TypeIs (.ref e) "enumerate" := ⟨_, he, rfl⟩
    have zlt : z < s.heap.objs.size := Heap.lt_size hz
    have elt : e < s.heap.objs.size := Heap.lt_size he
    have flt : ∀ c, c ∈ [e, z, TI, TO, j1, j2] → c < s.heap.objs.size := fun c hcm => by
      have e' : c = e ∨ c = z ∨ c = TI ∨ c = TO ∨ c = j1 ∨ c = j2 := by simpa using hcm
      rcases e' with r | r | r | r | r | r
      · rw [r]; exact elt
      · rw [r]; exact zlt
      · rw [r]; exact Heap.lt_size hI
      · rw [r]; exact Heap.lt_size hO
      · rw [r]; obtain ⟨_, q1, _⟩ := h1; exact Heap.lt_size q1
      · rw [r]; obtain ⟨_, q1, _⟩ := h2; exact Heap.lt_size q1
    unfold pyNext
    refine wpAny_bind (wpAny_attempt (wpAny_callSpecial?_slot (name := Str.ofString "__next__") hTy F.slot_enumerate_next (wpAny_call_entry F.slot_enumerate_next hTy F.entry_enumerate_next
      (eGo he (zNext D hz zo hI hO h1 h2 p.isList p2.isList (x := c) (y := d) (by simpa using hu) (by simpa using hu2) fun ha q' g' za zo' Oa h1a h2a Ta sza ka => ⟨ka e _ Ee.z Ee.TO Ee.j1 Ee.j2 he, fun hb eb Tb szb kb => wpAny_pure ?_⟩)) (F.args_enumerate_next_1 _))))
    have z2 : ha.objs.size = s.heap.objs.size + 1 := sza
    have n2e : ha.objs.size ≠ e := by rw [z2]; exact Nat.ne_of_gt (Nat.lt_succ_of_lt elt)
    have nf2 : ∀ b, b ∈ [e, z, TI, TO, j1, j2] → b ≠ ha.objs.size := fun b hb => by rw [z2]; exact Nat.ne_of_lt (Nat.lt_succ_of_lt (flt b hb))
    refine ⟨_, rfl, wpAny_letOwnedTupleGo_enum (s := { s with heap := hb, toks := s.toks + 1 }) eb fun hc ec sc => ?_⟩
    have kc : ∀ b o, b ≠ e → ha.get? b = some o → hc.get? b = some o := fun b o n q => (sc.2 b n).trans (kb b o n q)
    have new1 : ObjOk X.prog X.w (upd H s.heap.objs.size (.tup [x, y])) ha s.heap.objs.size (.tup [x, y]) := ⟨by show 2 ≤ sizeLine; decide, [c, d], .cons ru (.cons ru2 .nil), ⟨_, Ta, rfl, _, rfl⟩⟩
    have I1 : Inv X pins σ (upd H s.heap.objs.size (.tup [x, y])) { s with heap := ha } :=
      I.turnedNew (t' := s.toks) (ch := [e, z, TI, TO, j1, j2]) (fun b o nb q => ka b o (fun r => nb (by simp [r])) (fun r => nb (by simp [r])) (fun r => nb (by simp [r])) (fun r => nb (by simp [r])) q) hf (Nat.le_refl _) new1
    have nf : ∀ b, b ∈ [e, z, TI, TO, j1, j2] → b ≠ s.heap.objs.size := fun b hb => Nat.ne_of_lt (flt b hb)
    have f1 : ∀ b ∈ [e, z, TI, TO, j1, j2], FpOk X pins (upd H s.heap.objs.size (.tup [x, y])) b := fun b hb => ⟨by rw [upd_ne (nf b hb)]; exact (hf b hb).1, (hf b hb).2⟩
    have Tc : hc.get? ha.objs.size = some { cls := .type "tuple", data := .seq #[.int i s.toks, .ref s.heap.objs.size] } := (sc.2 _ n2e).trans Tb
    have new2 : ObjOk X.prog X.w (upd (upd H s.heap.objs.size (.tup [x, y])) ha.objs.size (.tup [.int (i : Nat), .ref s.heap.objs.size])) hc ha.objs.size (.tup [.int (i : Nat), .ref s.heap.objs.size]) :=
      ⟨by show 2 ≤ sizeLine; decide, [.int i s.toks, .ref s.heap.objs.size], .cons ⟨_, rfl⟩ (.cons rfl .nil), ⟨_, Tc, rfl, _, rfl⟩⟩
    have I2 : Inv X pins σ (upd (upd H s.heap.objs.size (.tup [x, y])) ha.objs.size (.tup [.int (i : Nat), .ref s.heap.objs.size])) { s with heap := hc, toks := s.toks + 1 } :=
      I1.turnedNew (t' := s.toks + 1) (ch := [e, z, TI, TO, j1, j2]) (fun b o nb q => kc b o (fun r => nb (by simp [r])) q) f1 (Nat.le_refl _) new2
    have fr : H s.heap.objs.size = none := I.hok.fresh (Nat.le_refl _)
    have n12 : s.heap.objs.size ≠ ha.objs.size := by rw [z2]; exact Nat.ne_of_lt (Nat.lt_succ_self _)
    have e1 : ((i + 1 : Nat) : Int) = (i : Int) + 1 := by omega
    obtain ⟨u', v', Oa⟩ := Oa
    refine ⟨.ref ha.objs.size, _, I2, rfl, ⟨_, _, x, y, rfl, fr, I.hok.fresh (by rw [z2]; exact Nat.le_succ _), n12, rfl, fun l hl => by rw [I.list_inj hl hqx]; exact hx, fun l hl => by rw [I.list_inj hl hqy]; exact hy⟩,
      ⟨⟨_, by rw [e1]; exact ec⟩, ⟨q', g', kc _ _ (Ne.symm Ee.z) za, zo'⟩, kc _ _ (Ne.symm Ee.TI) (ka _ _ D.TIz D.TITO D.TIi1 D.TIi2 hI), ⟨u', v', kc _ _ (Ne.symm Ee.TO) Oa⟩, h1a.at fun o q => kc _ o (Ne.symm Ee.j1) q, h2a.at fun o q => kc _ o (Ne.symm Ee.j2) q⟩, fun b hb => ?_⟩
    rw [upd_ne (nf2 b hb), upd_ne (nf b hb)]
    exact (hf b hb).1
  done := by
    intro X hP hw hK hc i pins s σ H E I hf q hg
    subst hP hw hK
    obtain ⟨⟨old, he⟩, ⟨q, g, hz, zo⟩, hI, ⟨u, v, hO⟩, h1, h2⟩ := q
    obtain ⟨xs, ys, hqx, hqy, hend⟩ := hg
    obtain ⟨its, rv, p, _⟩ := I.list hqx
    obtain ⟨its2, rv2, p2, _⟩ := I.list hqy
    have l1 := rv.length
    have l2 := rv2.length
    have hn : its.toArray[i]? = none ∨ its2.toArray[i]? = none := by
      rcases hend with r | r
      · exact .inl (by simp; omega)
      · exact .inr (by simp; omega)
    have hTy : s.TypeIs (.ref e) "enumerate" := ⟨_, he, rfl⟩
    have hh : X.A.handled = none := I.ok.hd hc
    unfold pyNext
    refine wpAny_bind (wpAny_attempt (wpAny_callSpecial?_slot (name := Str.ofString "__next__") hTy F.slot_enumerate_next (wpAny_call_entry F.slot_enumerate_next hTy F.entry_enumerate_next ?_ (F.args_enumerate_next_1 _))))
    show wpAny _ _ (field (.ref e) 2 >>= _) _ _ _
    refine wpAny_bind (wpAny_field he rfl (x := .ref z) rfl ?_)
    refine wpAny_bind (zStop hh D hz zo hI hO h1 h2 p.isList p2.isList hn fun h' ex k hex => ?_)
    obtain ⟨o, ho, hcl⟩ := hex
    refine wpAny_bind (wpAny_isInstance (T := "StopIteration") (b := true) ⟨o, ho, hcl⟩ isSubtype_stop ?_)
    exact wpAny_pure ⟨rfl, I.turnedL (t' := s.toks) (ch := [e, z, TI, TO, j1, j2]) (fun b o nb q => k b o (fun r => nb (by simp [r])) (fun r => nb (by simp [r])) (fun r => nb (by simp [r])) (fun r => nb (by simp [r])) q) hf⟩
  self := fun A i s Q E q h => let ⟨⟨_, he⟩, _⟩ := q; wpAny_pyIter_enum he h
/-! ## making it -/
set_option maxHeartbeats 4000000 in
theorem new_enum_zip (z TI TO : Addr) :
    Meets (Builtin.«enumerate.__new__» ⟨[.type "enumerate", .ref z], []⟩) (fun _ R s => IsZip s.heap z TI TO .none ∧
      R (.ok (.ret (.ref s.heap.objs.size))) { s with heap := s.heap.push { cls := .type "enumerate", data := .fields #[.none, .bool false, .ref z, rawInt 0, .none, .none] } }) :=
  .of_wp fun prog w A R s h => by
    obtain ⟨hp, gg, dd, tk, os⟩ := s
    obtain ⟨hz, h⟩ := h
    have hsub := sub_enumerate
    have q1 : ∀ {A2 : Around} {E2 : Value → Shared → Prop} {Q2 : Value → Shared → Prop}, Q2 (.ref z) ⟨hp, gg, dd, tk, os⟩ → wpAny (model prog w) A2 (pyIter (.ref z)) Q2 E2 ⟨hp, gg, dd, tk, os⟩ := fun q => wpAny_pyIter_zip (s := ⟨hp, gg, dd, tk, os⟩) hz q
    wp_walk using q1
    refine wpAny_stack_any fun st => wpAny_pure ?_
    split
    · rename_i c _ _ _ _ _
      cases (c == Value.type "enumerate")
      · wp_walk using q1
        exact ⟨_, rfl, h⟩
      · wp_walk using q1
        exact ⟨_, rfl, h⟩
    · wp_walk using q1
      exact ⟨_, rfl, h⟩
theorem call_enum_zip {prog : Program} {w : World} {A : Around} {E : Value → Shared → Prop} {s : Shared} {z TI TO : Addr} {Q : Value → Shared → Prop} (hz : IsZip s.heap z TI TO .none)
    (h : ∀ h', IsEnum h' s.heap.objs.size z 0 .none → h'.objs.size = s.heap.objs.size + 1 → (∀ b o, s.heap.get? b = some o → h'.get? b = some o) → Q (.ref s.heap.objs.size) { s with heap := h' }) :
    wpAny (model prog w) A (call (.type "enumerate") [.ref z]) Q E s := by
  refine callType_new F.called_enumerate (by decide) (F.typeCall_enumerate_1 _) (F.newCall_enumerate_1 _) (fun obj => F.args_object_init_2 obj _) F.entry_enumerate_new
    (new_enum_zip z TI TO) ⟨hz, ?_⟩
  have z2 : IsEnum (s.heap.push { cls := .type "enumerate", data := .fields #[.none, .bool false, .ref z, rawInt 0, .none, .none] }) s.heap.objs.size z 0 .none := Heap.get?_push_size _ rfl
  exact ⟨⟨_, z2, rfl⟩, h _ z2 (Heap.size_push ..) fun b o q => Heap.get?_push_of_some _ q⟩
def iEz (K : PySem.W.Frag) (ta : TA) : TI := fun σ H R => ta σ H fun vs H1 => ∃ a b xs ys, vs = [.ref a, .ref b] ∧ SqL K H1 a xs ∧ SqL K H1 b ys ∧ R (ItEz K a b) H1
theorem pi_ez {X : Cx} {e e2 : Expr} {ta : TA} {p p2 pos pos2 tpos : Pos} {elts : List Expr} {kk : Nat} (hg : Gl X "enumerate") (hm : X.mg "enumerate" = none) (hg2 : Gl X "zip") (hm2 : X.mg "zip" = none) (ha : PA X [e, e2] ta)
    (hs : starEach [e, e2] X.env = (false, eval e X.env) :: starEach [e2] X.env := by rfl) (hpl : (backTo pos2 (starEach [e2] X.env)).any (·.1) = false := by rfl)
    (hs2 : starEach [Expr.Call (.Name "zip" p2) [e, e2] [] pos2] X.env = [(false, eval (.Call (.Name "zip" p2) [e, e2] [] pos2) X.env)] := by rfl) :
    PI X (.Tuple elts kk tpos) (.Call (.Name "enumerate" p) [.Call (.Name "zip" p2) [e, e2] [] pos2] [] pos) (iEz X.K ta) := by
  constructor
  intro pins s σ H R I h
  refine Call_ (ld_blt I hg hm boot_enumerate (PyProof.Rows.callWith_type1 ?_ hs2 rfl))
  rw [hs2]
  refine Calls.spliced_cons ?_
  refine Call_ (ld_blt I hg2 hm2 PyProof.Rows.boot_zip (PyProof.Rows.callWith_type1 (thn (ha.run pos2 pins s σ H _ I h) fun us s1 hh => ?_) hs hpl))
  obtain ⟨vs, H1, I1, r1, a, b, xs, ys, ex, hqx, hqy, q⟩ := hh
  subst ex
  cases r1 with
  | cons r rr =>
    cases rr with
    | cons r' rr =>
      cases rr
      cases r
      cases r'
      obtain ⟨its, rv, p1, _⟩ := I1.list hqx
      obtain ⟨its2, rv2, p22, _⟩ := I1.list hqy
      refine call_zip_2 p1.isList p22.isList fun h' hz hTI hTO h1 h2 hsz hk => ?_
      have nilS : ∀ {Q2 : List Value → Shared → Prop} {s2 : Shared}, Q2 [] s2 → wpAny (model X.prog X.w) X.A (spliced (backTo pos (starEach [] X.env))) Q2 X.xe s2 := fun q => Calls.spliced_nil q
      refine nilS ?_
      have hz0 : IsZip h' (s1.heap.objs.size + 4) (s1.heap.objs.size + 2) (s1.heap.objs.size + 3) .none := hz
      refine call_enum_zip (s := { s1 with heap := h' }) hz0 fun h2' he2 hsz2 hk2 => wpAny_pyIter_enum he2 ?_
      have he2 : IsEnum h2' h'.objs.size (s1.heap.objs.size + 4) 0 .none := he2
      rw [hsz] at he2 hsz2
      have I2 : Inv X pins σ H1 { s1 with heap := h2' } := I1.kept (t' := s1.toks) fun b o q => hk2 b o (hk b o q)
      have la : a < s1.heap.objs.size := p1.lt
      have lb : b < s1.heap.objs.size := p22.lt
      show PIE X pins σ (.Tuple elts kk tpos) R (.ref h'.objs.size) _
      rw [hsz]
      refine ⟨s1.heap.objs.size + 5, [s1.heap.objs.size + 5, s1.heap.objs.size + 4, s1.heap.objs.size + 2, s1.heap.objs.size + 3, s1.heap.objs.size, s1.heap.objs.size + 1], _, _, H1, rfl, I2, turn_ez (PySem.W.ktu_apart s1.heap.objs.size a b la lb) ⟨?_, ?_, ?_, ?_, ?_⟩,
        ⟨⟨.none, he2⟩, ⟨.none, false, hk2 _ _ hz, .inl rfl⟩, hk2 _ _ hTI, ⟨_, _, hk2 _ _ hTO⟩, h1.at fun o q => hk2 _ o q, h2.at fun o q => hk2 _ o q⟩, fun c hc => ?_, q⟩
      · exact Nat.ne_of_gt (Nat.lt_succ_self _)
      · exact Nat.ne_of_gt (Nat.add_lt_add_left (by decide) _)
      · exact Nat.ne_of_gt (Nat.add_lt_add_left (by decide) _)
      · exact Nat.ne_of_gt (Nat.lt_add_of_pos_right (by decide))
      · exact Nat.ne_of_gt (Nat.add_lt_add_left (by decide) _)
      have e' : c = s1.heap.objs.size + 5 ∨ c = s1.heap.objs.size + 4 ∨ c = s1.heap.objs.size + 2 ∨ c = s1.heap.objs.size + 3 ∨ c = s1.heap.objs.size ∨ c = s1.heap.objs.size + 1 := by simpa using hc
      have hle : s1.heap.objs.size ≤ c := by
        rcases e' with r | r | r | r | r | r
        · rw [r]; exact Nat.le_add_right _ _
        · rw [r]; exact Nat.le_add_right _ _
        · rw [r]; exact Nat.le_add_right _ _
        · rw [r]; exact Nat.le_add_right _ _
        · rw [r]; exact Nat.le_refl _
        · rw [r]; exact Nat.le_add_right _ _
      exact I1.fpOk hle (I1.hok.fresh hle)
/-- a loop over it -/
def YEz (xs ys : Nat → Option V) : Nat → Hp → V → Hp → Prop := fun i H v H' => ∃ T1 T2 x y, v = .ref T2 ∧ H T1 = none ∧ H T2 = none ∧ T1 ≠ T2 ∧ H' = upd (upd H T1 (.tup [x, y])) T2 (.tup [.int (i : Nat), .ref T1]) ∧ xs i = some x ∧ ys i = some y
theorem walk_ez {K : PySem.W.Frag} {a b : Addr} {xs ys : List V} {n : Nat} (hn : n = min xs.length ys.length) : Walk (ItEz K a b) n (fun H => SqL K H a xs ∧ SqL K H b ys) (YEz (fun i => xs[i]?) (fun i => ys[i]?)) := by
  subst hn
  refine ⟨fun i _ hi q => ?_, fun _ q => ⟨xs, ys, q.1, q.2, by omega⟩, fun i H v H' _ q y => ?_⟩
  · have h1 : i < xs.length := by omega
    have h2 : i < ys.length := by omega
    exact ⟨xs, ys, xs[i], ys[i], q.1, q.2, List.getElem?_eq_getElem h1, List.getElem?_eq_getElem h2⟩
  · obtain ⟨T1, T2, u, v, p1, p2, p3, p4, p5, p6, p7⟩ := y
    exact ⟨T1, T2, u, v, p1, p2, p3, p4, p5, p6 xs q.1, p7 ys q.2⟩
theorem walk_zipT {K : PySem.W.Frag} {a b : Addr} {xs ys : List V} {n : Nat} (hn : n = min xs.length ys.length) : Walk (RZ.ItzT K a b) n (fun H => SqT K H a xs ∧ SqT K H b ys) (YPair (fun i => xs[i]?) (fun i => ys[i]?)) := by
  subst hn
  refine ⟨fun i _ hi q => ?_, fun _ q => ⟨xs, ys, q.1, q.2, by omega⟩, fun i H v H' _ q y => ?_⟩
  · have h1 : i < xs.length := by omega
    have h2 : i < ys.length := by omega
    exact ⟨xs, ys, xs[i], ys[i], q.1, q.2, List.getElem?_eq_getElem h1, List.getElem?_eq_getElem h2⟩
  · obtain ⟨T, u, v, p1, p2, p3, p4, p5⟩ := y
    exact ⟨T, u, v, p1, p2, p3, p4 xs q.1, p5 ys q.2⟩
end Cf

namespace Cf
open PySem PySem.Spec PyProof.Rows L2 Evl
/-! ## names -/
def sLETTERS : Str := "abcdefghijklmnopqrstuvwxyz"
def vRESERVED : List V := [.str "not", .str "and", .str "or", .str "cast", .str "neg", .str "none"]
def vSUFFIXES : List V := sufs.map V.str
def vCONDITIONS : List V := [.str "less", .str "most", .str "not", .str "and", .str "or"]
def vPARTS : List V := [.str "expression", .str "condition"]
def CS (mg : Str → Option Value) (x : Str) (s : Str) : Prop := ∃ t, mg x = some (.str s t)
theorem pe_cs {X : Cx} {pos : Pos} {x : Str} {s : Str} (hg : Gl X x) (c : CS X.mg x s) (hd : (x == ("__debug__" : Str)) = false := by decide) : PE X (.Name x pos) (tC (.str s)) := by
  obtain ⟨t, h⟩ := c
  exact pe_glob (v := .str s) hg h ⟨_, rfl⟩ hd
def nameOk (x : Str) : Bool := !inV (.str x) vKINDS && !inV (.str x) vRESERVED && decide (1 ≤ (x.length : Int) ∧ (x.length : Int) ≤ 8) && (x.cps.toList.all fun c => decide (c ∈ sLETTERS.cps.toList))
def preName : List V → Hp → V → Prop := fun vs H v => ∃ x, vs = [.str x] ∧ nameOk x = true ∧ v = .bl true
theorem spName {H : Hp} {x : Str} (h : nameOk x = true) : SpV (PV preName) [.str x] H (.bl true) := PV.sp fun H1 e => ⟨x, rfl, h, rfl⟩
theorem rv_sign {c : Nat} {z : Str} {H : Hp} : RV (fun x y H Q => ∃ (c : Nat) (z : Str), x = .str ⟨#[c]⟩ ∧ y = .str z ∧ Q (.bl (decide (c ∈ z.cps.toList))) H) (.str ⟨#[c]⟩) (.str z) H (.bl (decide (c ∈ z.cps.toList))) := fun H1 _ _ q => ⟨_, _, rfl, rfl, q H1 (Ex.refl H1)⟩
theorem el_lcS {te : TE} {tl : TE} {σ : L2.St} {H : Hp} {j : Nat} {vs : List Nat} {z : Str} (v : Nat → V) (h : Ev tl σ H (.str z)) (hz : z.cps.size ≤ 40000) (hw : ∀ x, wipe ((wipe σ vs).set j (some x)) vs = wipe σ vs)
    (he : ∀ (i c : Nat) H1, Ex H H1 → z.cps[i]? = some c → Ev te ((wipe σ vs).set j (some (.str ⟨#[c]⟩))) H1 (v i)) : EvL (tLc (iStr tl) (gName j) tYes te vs) σ H (given z.cps.size (fun _ => true) v) := fun H0 e Q q => h H0 e _ fun H1 e1 => ⟨z, rfl, fun Dl hD =>
  lc_it walk_str (Cw H1 (fun _ => true) v Dl) ⟨hD, Ex.new hD, upd_same⟩ (fun _ _ _ _ => trivial) (fun i x G G' hi p y => by
    obtain ⟨rfl, c, hc, rfl⟩ := y
    exact ⟨hw _, cw_turn p (by omega) (fun H3 e3 Q q => q H3 (Ex.refl H3)) (fun hf => he i c H1 (e.trans e1) hc)⟩) (fun G p => q Dl G (fresh_back e1 p.1) (e1.trans p.2.1) p.2.2)⟩
theorem ev_lenS {σ : L2.St} {H : Hp} {ta : TE} {z : Str} (h : Ev ta σ H (.str z)) (hz : z.length ≤ 100000) : Ev (tCB (fun xs H Q => ∃ z, xs = [.str z] ∧ z.length ≤ sizeLine ∧ Q (.int z.length) H) (tCons ta tNil)) σ H (.int (z.length : Int)) := ev_cb (ea_cons h ea_nil) fun H1 e Q q => ⟨z, rfl, sz_of hz, q H1 (Ex.refl H1)⟩
theorem ev_allN {K : PySem.W.Frag} {σ : L2.St} {H : Hp} {ta : TE} {bs : List Bool} (h : EvL ta σ H (bs.map V.bl)) : Ev (tCB (rAll K) (tCons ta tNil)) σ H (.bl (bs.all id)) := fun H1 e Q q => h H1 e _ fun p H2 np e2 h2 => ⟨p, bs, rfl, sq_of h2, q H2 e2⟩
/-! ## the form of nodes -/
def Nd.forms : Nd → List Str
  | .var _ => ["name"] | .lit _ _ => ["number", "suffix"] | .cast _ _ => ["kind", "expression"] | .neg _ => ["expression"] | .bin _ _ _ => ["expression", "expression"] | .sh _ _ _ => ["expression", "number"] | .ite _ _ _ => ["condition", "expression", "expression"] | .cmp _ _ _ => ["expression", "expression"] | .nt _ => ["condition"] | .lg _ _ _ => ["condition", "condition"]
def CIt (K : PySem.W.Frag) (w : World) (mg : Str → Option Value) : Prop := ∃ (a : Addr) (es : Array DictEntry) (n : Nat), mg "ITEMS" = some (.ref a) ∧ KDict K w a es n ∧ ∀ nd : Nd, ∃ t : Addr, PySem.W.nsIn K a nd.word = some (some (.ref t)) ∧ ∀ H, SqT K H t (nd.forms.map V.str)
/-- the items behind the word, by their forms -/
def Rest (H : Hp) (nd : Nd) (rest : List V) : Prop :=
  match nd with
  | .var x => rest = [.str x]
  | .lit n s => rest = [.int n, .str s]
  | .cast k e => ∃ q, rest = [k.v, .ref q] ∧ TreeAt H q e
  | .neg e => ∃ q, rest = [.ref q] ∧ TreeAt H q e
  | .bin _ e f => ∃ q r, rest = [.ref q, .ref r] ∧ TreeAt H q e ∧ TreeAt H r f
  | .sh _ e k => ∃ q, rest = [.ref q, .int k] ∧ TreeAt H q e
  | .ite c e f => ∃ o q r, rest = [.ref o, .ref q, .ref r] ∧ TreeAt H o c ∧ TreeAt H q e ∧ TreeAt H r f
  | .cmp _ e f => ∃ q r, rest = [.ref q, .ref r] ∧ TreeAt H q e ∧ TreeAt H r f
  | .nt c => ∃ q, rest = [.ref q] ∧ TreeAt H q c
  | .lg _ c d => ∃ q r, rest = [.ref q, .ref r] ∧ TreeAt H q c ∧ TreeAt H r d
theorem TreeAt.rest {H : Hp} : ∀ {nd : Nd} {p : Addr}, TreeAt H p nd → ∃ rest, H p = some (.tup (.str nd.word :: rest)) ∧ Rest H nd rest
  | .var _, _, h => ⟨_, h, rfl⟩
  | .lit _ _, _, h => ⟨_, h, rfl⟩
  | .cast _ _, _, ⟨q, h, t⟩ => ⟨_, h, q, rfl, t⟩
  | .neg _, _, ⟨q, h, t⟩ => ⟨_, h, q, rfl, t⟩
  | .bin _ _ _, _, ⟨q, r, h, t, u⟩ => ⟨_, h, q, r, rfl, t, u⟩
  | .sh _ _ _, _, ⟨q, h, t⟩ => ⟨_, h, q, rfl, t⟩
  | .ite _ _ _, _, ⟨o, q, r, h, s, t, u⟩ => ⟨_, h, o, q, r, rfl, s, t, u⟩
  | .cmp _ _ _, _, ⟨q, r, h, t, u⟩ => ⟨_, h, q, r, rfl, t, u⟩
  | .nt _, _, ⟨q, h, t⟩ => ⟨_, h, q, rfl, t⟩
  | .lg _ _ _, _, ⟨q, r, h, t, u⟩ => ⟨_, h, q, r, rfl, t, u⟩
def isPart (f : Str) : Bool := inV (.str f) vPARTS
def pick : List Str → List V → List V
  | f :: fs, x :: xs => if isPart f = true then x :: pick fs xs else pick fs xs
  | _, _ => []
theorem rest_pick {H : Hp} : ∀ {nd : Nd} {rest : List V}, Rest H nd rest → rest.length = nd.forms.length ∧ ∃ qs, pick nd.forms rest = qs.map V.ref ∧ PartsAt H qs nd.parts
  | .var _, _, h => by cases h; exact ⟨rfl, [], rfl, trivial⟩
  | .lit _ _, _, h => by cases h; exact ⟨rfl, [], rfl, trivial⟩
  | .cast _ _, _, ⟨q, rfl, t⟩ => ⟨rfl, [q], rfl, t, trivial⟩
  | .neg _, _, ⟨q, rfl, t⟩ => ⟨rfl, [q], rfl, t, trivial⟩
  | .bin _ _ _, _, ⟨q, r, rfl, t, u⟩ => ⟨rfl, [q, r], rfl, t, u, trivial⟩
  | .sh _ _ _, _, ⟨q, rfl, t⟩ => ⟨rfl, [q], rfl, t, trivial⟩
  | .ite _ _ _, _, ⟨o, q, r, rfl, s, t, u⟩ => ⟨rfl, [o, q, r], rfl, s, t, u, trivial⟩
  | .cmp _ _ _, _, ⟨q, r, rfl, t, u⟩ => ⟨rfl, [q, r], rfl, t, u, trivial⟩
  | .nt _, _, ⟨q, rfl, t⟩ => ⟨rfl, [q], rfl, t, trivial⟩
  | .lg _ _ _, _, ⟨q, r, rfl, t, u⟩ => ⟨rfl, [q, r], rfl, t, u, trivial⟩
theorem pick_step : ∀ (fs : List Str) (xs : List V) (i : Nat) (f : Str) (x : V), fs[i]? = some f → xs[i]? = some x → pick (fs.take (i + 1)) (xs.take (i + 1)) = pick (fs.take i) (xs.take i) ++ (if isPart f = true then [x] else [])
  | g :: fs, y :: xs, 0, f, x, h, k => by
    cases (Option.some.inj h)
    cases (Option.some.inj k)
    simp only [List.take_succ_cons, List.take_zero, pick]
    split <;> rfl
  | g :: fs, y :: xs, i + 1, f, x, h, k => by
    have ih := pick_step fs xs i f x h k
    simp only [List.take_succ_cons, pick]
    split
    · rw [ih, List.cons_append]
    · exact ih
  | [], _, _, _, _, h, _ => nomatch h
  | _ :: _, [], _, _, _, _, k => nomatch k
theorem pick_len : ∀ (fs : List Str) (xs : List V), (pick fs xs).length ≤ fs.length
  | [], _ => by simp [pick]
  | _ :: _, [] => by simp [pick]
  | f :: fs, x :: xs => by
    have ih := pick_len fs xs
    simp only [pick]
    split <;> simp only [List.length_cons] <;> omega
theorem forms_len (nd : Nd) : 1 ≤ nd.forms.length ∧ nd.forms.length ≤ 3 := by cases nd <;> simp [Nd.forms]
/-! ## names that are not used yet -/
def seenL (ns : List Str) : List (Key × V) := ns.map fun x => (.inr x, .bl true)
theorem seen_in {ns : List Str} {x : Str} : (valV (seenL ns) (.inr x)).isSome = decide (x ∈ ns) := by
  rw [← valV_any]
  unfold seenL
  rw [List.any_map]
  by_cases h : x ∈ ns
  · rw [decide_eq_true h, List.any_eq_true]
    exact ⟨x, h, by simp⟩
  · rw [decide_eq_false h, List.any_eq_false]
    intro y hy
    simp only [Function.comp_apply, decide_eq_true_eq]
    intro z
    exact h (Sum.inr.inj z ▸ hy)
theorem seen_put {ns : List Str} {x : Str} (h : x ∉ ns) : putK (seenL ns) (.inr x) (.bl true) = seenL (ns ++ [x]) := by
  unfold putK
  rw [valV_any, seen_in, decide_eq_false h, if_neg (by decide)]
  unfold seenL
  rw [List.map_append]
  rfl
theorem seen_drop (ns : List Str) (x : Str) : dropK (seenL ns) (.inr x) = seenL (ns.filter fun y => decide (y ∉ [x])) := by
  unfold dropK seenL
  rw [List.filter_map]
  congr 1
  apply List.filter_congr
  intro y _
  simp only [Function.comp_apply, List.mem_singleton, decide_eq_decide]
  exact ⟨fun h z => h (by rw [z]), fun h z => h (Sum.inr.inj z)⟩
theorem ev_dinK {σ : L2.St} {H : Hp} {ta td : TE} {d : Addr} {ns : List Str} {x : Str} (hx : Ev ta σ H (.str x)) (hd : Ev td σ H (.ref d)) (h : H d = some (.dK (seenL ns))) : Ev (tDIn ta td) σ H (.bl (decide (x ∈ ns))) := fun H1 e Q q =>
  hx H1 e _ fun H2 e2 => hd H2 (e.trans e2) _ fun H3 e3 => ⟨d, _, rfl, DGet.k (k := .inr x) (e3 _ _ (e2 _ _ (e _ _ h))), by
    rw [seen_in]
    exact q H3 (e2.trans e3)⟩
/-- an item that fits its form -/
def FitV (H : Hp) (ns : List Str) (f : Str) (x : V) : Prop :=
  (f = "name" ∧ ∃ s, x = .str s ∧ s ∈ ns) ∨ (f = "number" ∧ ∃ n, x = .int n ∧ 0 ≤ n) ∨ (f = "suffix" ∧ ∃ s, x = .str s ∧ s ∈ sufs) ∨ (f = "kind" ∧ ∃ k : Kd, x = k.v) ∨ f = "expression" ∨ f = "condition"
def spFits : Sp := fun vs H Q _ => ∃ (fo : Str) (x : V) (d : Addr) (ns : List Str), vs = [.str fo, x, .ref d] ∧ FitV H ns fo x ∧ H d = some (.dK (seenL ns)) ∧ ∀ H', Ex H H' → Q (.bl true) H'
theorem rest_fits {H : Hp} {ns : List Str} : ∀ {nd : Nd} {rest : List V}, Rest H nd rest → nd.wf → (∀ x ∈ nd.vars, x ∈ ns) → ∀ (i : Nat) (f : Str) (x : V), nd.forms[i]? = some f → rest[i]? = some x → FitV H ns f x
  | .var v, _, h, _, hv => fun i f x => by
    cases h
    match i with
    | 0 => intro a b; cases a; cases b; exact .inl ⟨rfl, _, rfl, hv _ (List.mem_cons_self ..)⟩
    | i + 1 => intro a b; exact nomatch a
  | .lit n s, _, h, w, _ => fun i f x => by
    cases h
    match i with
    | 0 => intro a b; cases a; cases b; exact .inr (.inl ⟨rfl, _, rfl, w.1⟩)
    | 1 => intro a b; cases a; cases b; exact .inr (.inr (.inl ⟨rfl, _, rfl, w.2.2⟩))
    | i + 2 => intro a b; exact nomatch a
  | .cast k e, _, ⟨q, rfl, _⟩, _, _ => fun i f x => by
    match i with
    | 0 => intro a b; cases a; cases b; exact .inr (.inr (.inr (.inl ⟨rfl, _, rfl⟩)))
    | 1 => intro a b; cases a; exact .inr (.inr (.inr (.inr (.inl rfl))))
    | i + 2 => intro a b; exact nomatch a
  | .neg e, _, ⟨q, rfl, _⟩, _, _ => fun i f x => by
    match i with
    | 0 => intro a b; cases a; exact .inr (.inr (.inr (.inr (.inl rfl))))
    | i + 1 => intro a b; exact nomatch a
  | .bin _ e g, _, ⟨q, r, rfl, _⟩, _, _ => fun i f x => by
    match i with
    | 0 => intro a b; cases a; exact .inr (.inr (.inr (.inr (.inl rfl))))
    | 1 => intro a b; cases a; exact .inr (.inr (.inr (.inr (.inl rfl))))
    | i + 2 => intro a b; exact nomatch a
  | .sh _ e k, _, ⟨q, rfl, _⟩, w, _ => fun i f x => by
    match i with
    | 0 => intro a b; cases a; exact .inr (.inr (.inr (.inr (.inl rfl))))
    | 1 => intro a b; cases a; cases b; exact .inr (.inl ⟨rfl, _, rfl, w.2.2.1⟩)
    | i + 2 => intro a b; exact nomatch a
  | .ite c e g, _, ⟨o, q, r, rfl, _⟩, _, _ => fun i f x => by
    match i with
    | 0 => intro a b; cases a; exact .inr (.inr (.inr (.inr (.inr rfl))))
    | 1 => intro a b; cases a; exact .inr (.inr (.inr (.inr (.inl rfl))))
    | 2 => intro a b; cases a; exact .inr (.inr (.inr (.inr (.inl rfl))))
    | i + 3 => intro a b; exact nomatch a
  | .cmp _ e g, _, ⟨q, r, rfl, _⟩, _, _ => fun i f x => by
    match i with
    | 0 => intro a b; cases a; exact .inr (.inr (.inr (.inr (.inl rfl))))
    | 1 => intro a b; cases a; exact .inr (.inr (.inr (.inr (.inl rfl))))
    | i + 2 => intro a b; exact nomatch a
  | .nt c, _, ⟨q, rfl, _⟩, _, _ => fun i f x => by
    match i with
    | 0 => intro a b; cases a; exact .inr (.inr (.inr (.inr (.inr rfl))))
    | i + 1 => intro a b; exact nomatch a
  | .lg _ c d, _, ⟨q, r, rfl, _⟩, _, _ => fun i f x => by
    match i with
    | 0 => intro a b; cases a; exact .inr (.inr (.inr (.inr (.inr rfl))))
    | 1 => intro a b; cases a; exact .inr (.inr (.inr (.inr (.inr rfl))))
    | i + 2 => intro a b; exact nomatch a
def formOf (nd : Nd) : Str := if nd.isE = true then "expression" else "condition"
def preForm (K : PySem.W.Frag) : List V → Hp → V → Prop := fun vs H v => ∃ p nd x, vs = [.ref p, x] ∧ TreeAt H p nd ∧ (x = .non ∨ x = .str (formOf nd)) ∧ v = .bl true
def spItems : Sp := fun vs H Q _ => ∃ p nd d ns, vs = [.ref p, .ref d] ∧ TreeAt H p nd ∧ nd.wf ∧ (∀ x ∈ nd.vars, x ∈ ns) ∧ H d = some (.dK (seenL ns)) ∧ ∀ H', Ex H H' → Q (.bl true) H'
theorem cond_in : ∀ nd : Nd, inV (.str nd.word) vCONDITIONS = !nd.isE
  | .var _ => rfl | .lit _ _ => rfl | .cast _ _ => rfl | .neg _ => rfl | .ite _ _ _ => rfl | .nt _ => rfl
  | .bin o _ _ => by cases o <;> rfl
  | .sh b _ _ => by cases b <;> rfl
  | .cmp b _ _ => by cases b <;> rfl
  | .lg b _ _ => by cases b <;> rfl
theorem rest_len {H : Hp} {nd : Nd} {rest : List V} (h : Rest H nd rest) : rest.length = nd.forms.length := (rest_pick h).1
def spCV : Sp := fun vs H Q _ => ∃ l rows, vs = [.ref l] ∧ VarsAt H l rows ∧ rows.length ≤ 100 ∧ (∀ w ∈ rows, nameOk w.name = true) ∧ (rows.map Row.name).Nodup ∧ (∀ w ∈ rows, w.low ≤ w.high) ∧ ∀ H', Ex H H' → Q .non H'
end Cf

namespace Cf
open PySem PySem.Spec PyProof.Rows L2 Evl
/-- a dict comprehension over anything that is walked: what a turn asks, and its loop -/
abbrev DcTurn (g : TG) (tt : TT) (tk tv : TE) (vs : List Nat) (σ : L2.St) (D : Addr) (x : V) (G : Hp) (Nx : Hp → Prop) : Prop :=
  g x (wipe σ vs) G fun τ G2 => wipe τ vs = wipe σ vs ∧ tt τ G2 fun b G3 => if b = true then tk τ G3 fun y G4 => tv τ G4 fun z G5 => ∃ kvs k, y = kV k ∧ G5 D = some (.dK kvs) ∧ kvs.length < sizeLine ∧ Nx (upd G5 D (.dK (putK kvs k z))) else Nx G3
theorem dc_walk {J : It} {n : Nat} {G : Hp → Prop} {Y : Nat → Hp → V → Hp → Prop} (w : Walk J n G Y) {g : TG} {tt : TT} {tk tv : TE} {vs : List Nat} {σ : L2.St} {H1 : Hp} {D : Addr} {Qd : Hp → Prop} (Pv : Nat → Hp → Prop) (p0 : Pv 0 (upd H1 D (.dK []))) (pG : ∀ c F, c ≤ n → Pv c F → G F)
    (ps : ∀ c x F F', c < n → Pv c F → Y c F x F' → DcTurn g tt tk tv vs σ D x F' (Pv (c + 1))) (pd : ∀ F, Pv n F → Qd F) :
    ∃ W : Nat → Nat → Hp → Prop, (∃ r, W 0 r (upd H1 D (.dK []))) ∧ ∀ c r F, W c r F → (J.stop c F ∧ Qd F) ∨ (J.go c F ∧ ∃ Nx : Hp → Prop, (∀ F', Nx F' → ∃ r', r' < r ∧ W (c + 1) r' F') ∧ ∀ x F', J.yld c F x F' → DcTurn g tt tk tv vs σ D x F' Nx) := by
  refine ⟨fun c r F => r = n - c ∧ c ≤ n ∧ Pv c F, ⟨n, by simp, Nat.zero_le _, p0⟩, fun c r F hw => ?_⟩
  obtain ⟨rfl, hc, hp⟩ := hw
  rcases Nat.lt_or_eq_of_le hc with lt | eq
  · exact .inr ⟨w.goes c F lt (pG c F hc hp), Pv (c + 1), fun F' p' => ⟨n - (c + 1), by omega, rfl, lt, p'⟩, fun x F' y => ps c x F F' lt hp (w.yields c F x F' lt (pG c F hc hp) y)⟩
  · subst eq
    exact .inl ⟨w.stops F (pG c F hc hp), pd F hp⟩
/-- name = {..} on one line, the name a local -/
theorem ps_setDc {X : Cx} {j : Nat} {v : Str} {vp : Pos} {ka va tg it : Expr} {ifs : List Expr} {sc : Scope} {own : List (Str × Nat)} {cp sp : Pos} {wi : TI} {g : TG} {tt : TT} {tk tv : TE} (hc : X.calm = true) (hN : X.N.Nodup) (hj : X.N[j]? = some v) (hv : X.env.scope.names.lookup v = some .local)
    (hsw : swapsWith (.DictComp ka va [⟨tg, it, ifs, 0⟩] sc cp) (some (.Name v vp)) sp.line X.env = pure true) (hi : PI X tg it wi) (ok : BlkOk X.N X.env.scope sc own)
    (pg : ∀ (s : Shared) (H : Hp) (C : Addr) (cl : List (Str × Addr)) (fp : List Addr), PG (X.blk s H sc (compEnvC sc cl C X.env) fp) tg g) (pt : ∀ (s : Shared) (H : Hp) (C : Addr) (cl : List (Str × Addr)) (fp : List Addr), PTs (X.blk s H sc (compEnvC sc cl C X.env) fp) ifs tt)
    (pk : ∀ (s : Shared) (H : Hp) (C : Addr) (cl : List (Str × Addr)) (fp : List Addr), PE (X.blk s H sc (compEnvC sc cl C X.env) fp) ka tk) (pvl : ∀ (s : Shared) (H : Hp) (C : Addr) (cl : List (Str × Addr)) (fp : List Addr), PE (X.blk s H sc (compEnvC sc cl C X.env) fp) va tv)
    (hs : ∀ x, foldedSetIterable it X.env x = pure x := by intro _; rfl) : PS X (.Assign [.Name v vp] (.DictComp ka va [⟨tg, it, ifs, 0⟩] sc cp) sp) (tAsg (tDc wi g tt tk tv (own.map (·.2))) (gName j)) := by
  constructor
  intro pins s σ H D I h
  rw [exec_Assign_Name_used _ _ _ _ hsw]
  refine wpAny_bind (wpAny_standAt (wpAny_bind ?_))
  show wpAny _ X.A (do let _ ← comprehension (.DictComp ka va [⟨tg, it, ifs, 0⟩] sc cp) sc X.env (firstIterPos [⟨tg, it, ifs, 0⟩] cp) newDict false (eval it X.env) (some (assign (.Name v vp) X.env))) _ _ s
  have h : tDc wi g tt tk tv (own.map (·.2)) σ H (fun x H1 => gName j x σ H1 D.nx) := h
  refine wpAny_bind (thn (dc_core (Qf := fun _ s' => SP X pins D .next s') hc hN I hi ok pg pt pk pvl hs h fun L C s' m H' J q hn fpo => ?_) fun _ s' hq => wpAny_pure (wpAny_pure hq))
  show wpAny _ _ (assign (.Name v vp) X.env (.ref L)) _ _ _
  refine wpAny_assign_Name (store_ok2 (v := V.ref L) J hN hj (.inl hv) rfl (fun s2 J2 hh => ?_) (.inr hv))
  obtain ⟨a, sb, ha⟩ := hh
  obtain ⟨q0, q1, q2, q3, q4, q5⟩ := fpo
  have nCa : C ≠ a := by
    rcases ha with z | z
    · rw [z]
      exact q1
    · exact fun e => q4 v a z e.symm
  exact ⟨m, hn.sameBut sb nCa, fun h3 sb3 => ⟨_, H', J2.turned (t' := s2.toks) (fun b o hb e => (sb3.2 b hb).trans e) q0 q1 q3 q4 q5, q⟩⟩
theorem sw_dict {ka va : Expr} {gs : List Comprehension} {sc : Scope} {cp vp : Pos} {v : Str} {l : Nat} {env : Env} (hk : env.scope.kind = .function) (hv : env.scope.names.lookup v = some .local) (hl : (vp.line == cp.line) = true)
    (ha : (sc.names.any fun (n, k) => n == v && (k == .local || k == .cell)) = false) : swapsWith (.DictComp ka va gs sc cp) (some (.Name v vp)) l env = pure true := by
  have k1 : env.kindOf v = some .local := hv
  have k2 : env.blockKind = .function := by
    unfold Env.blockKind
    rw [hk]
    rfl
  unfold swapsWith
  simp only [k2, k1, ha, Expr.pos, hl]
  rfl
/-! ## the check of expressions -/
def varsL (es : List Nd) : List Str := es.flatMap Nd.vars
theorem vars_parts : ∀ {nd : Nd}, (∀ x, nd ≠ .var x) → nd.vars = varsL nd.parts
  | .var x, h => absurd rfl (h x)
  | .lit _ _, _ => rfl
  | .cast _ _, _ => by simp [Nd.vars, varsL, Nd.parts] | .neg _, _ => by simp [Nd.vars, varsL, Nd.parts] | .nt _, _ => by simp [Nd.vars, varsL, Nd.parts] | .sh _ _ _, _ => by simp [Nd.vars, varsL, Nd.parts]
  | .bin _ _ _, _ => by simp [Nd.vars, varsL, Nd.parts] | .cmp _ _ _, _ => by simp [Nd.vars, varsL, Nd.parts] | .lg _ _ _, _ => by simp [Nd.vars, varsL, Nd.parts]
  | .ite _ _ _, _ => by simp [Nd.vars, varsL, Nd.parts]
def without (ns vs : List Str) : List Str := ns.filter fun y => decide (y ∉ vs)
theorem without_two (ns a b : List Str) : without (without ns a) b = without ns (a ++ b) := by
  unfold without
  rw [List.filter_filter]
  apply List.filter_congr
  intro x _
  simp only [List.mem_append, not_or, Bool.decide_and]
  exact Bool.and_comm ..
theorem without_nil (ns : List Str) : without ns [] = ns := by
  unfold without
  rw [List.filter_eq_self]
  intro x _
  simp
theorem without_in {ns vs : List Str} {x : Str} : x ∈ without ns vs ↔ x ∈ ns ∧ x ∉ vs := by
  unfold without
  rw [List.mem_filter, decide_eq_true_iff]
theorem without_len (ns vs : List Str) : (without ns vs).length ≤ ns.length := List.length_filter_le ..
theorem varsL_take {es : List Nd} {i : Nat} {e : Nd} (h : es[i]? = some e) : varsL (es.take (i + 1)) = varsL (es.take i) ++ e.vars := by
  rw [List.take_add_one, h]
  simp [varsL]
theorem varsL_split {es : List Nd} {i : Nat} {e : Nd} (h : es[i]? = some e) : varsL es = varsL (es.take i) ++ (e.vars ++ varsL (es.drop (i + 1))) := by
  have hi := (List.getElem?_eq_some_iff.mp h).1
  have he := (List.getElem?_eq_some_iff.mp h).2
  have : es = es.take i ++ e :: es.drop (i + 1) := by
    rw [← he, ← List.drop_eq_getElem_cons hi, List.take_append_drop]
  conv => lhs; rw [this]
  simp [varsL]
theorem forms_parts : ∀ {nd : Nd}, nd.wf → (nd.forms.filter isPart) = nd.parts.map formOf
  | .var _, _ => by simp only [Nd.forms, Nd.parts, List.map_nil]; decide +kernel
  | .lit _ _, _ => by simp only [Nd.forms, Nd.parts, List.map_nil]; decide +kernel
  | .cast _ e, w => by simp only [Nd.forms, Nd.parts, List.map_cons, List.map_nil, formOf, w.1, if_true]; decide +kernel
  | .neg e, w => by simp only [Nd.forms, Nd.parts, List.map_cons, List.map_nil, formOf, w.1, if_true]; decide +kernel
  | .nt e, w => by simp only [Nd.forms, Nd.parts, List.map_cons, List.map_nil, formOf, w.1, Bool.false_eq_true, if_false]; decide +kernel
  | .sh _ e _, w => by simp only [Nd.forms, Nd.parts, List.map_cons, List.map_nil, formOf, w.1, if_true]; decide +kernel
  | .bin _ e f, w => by simp only [Nd.forms, Nd.parts, List.map_cons, List.map_nil, formOf, w.1, w.2.1, if_true]; decide +kernel
  | .cmp _ e f, w => by simp only [Nd.forms, Nd.parts, List.map_cons, List.map_nil, formOf, w.1, w.2.1, if_true]; decide +kernel
  | .lg _ e f, w => by simp only [Nd.forms, Nd.parts, List.map_cons, List.map_nil, formOf, w.1, w.2.1, Bool.false_eq_true, if_false]; decide +kernel
  | .ite c e f, w => by simp only [Nd.forms, Nd.parts, List.map_cons, List.map_nil, formOf, w.1, w.2.1, w.2.2.1, Bool.false_eq_true, if_false, if_true]; decide +kernel
def spNode (K : PySem.W.Frag) (d : Nat) : Sp := fun vs H Q _ => ∃ t p x u pt nd ns, vs = [.ref t, .ref p, x, .ref u] ∧ SqT K H t (pathV pt) ∧ pt.length + nd.size ≤ 100 ∧ TreeAt H p nd ∧ nd.wf ∧ nd.size ≤ d ∧ (x = .non ∨ x = .str (formOf nd)) ∧ H u = some (.dK (seenL ns)) ∧ (∀ y ∈ nd.vars, y ∈ ns) ∧ nd.vars.Nodup ∧ ns.length ≤ 100 ∧
  ∀ H', Bu u H H' → H' u = some (.dK (seenL (without ns nd.vars))) → Q .non H'
def spCE : Sp := fun vs H Q _ => ∃ l p rows nd, vs = [.ref l, .ref p] ∧ VarsAt H l rows ∧ rows.length ≤ 100 ∧ (rows.map Row.name).Nodup ∧ TreeAt H p nd ∧ nd.wf ∧ nd.size ≤ 30 ∧ (∀ y ∈ nd.vars, y ∈ rows.map Row.name) ∧ nd.vars.Nodup ∧ ∀ H', Ex H H' → Q .non H'
theorem word_var : ∀ {nd : Nd}, nd.word = "var" → ∃ x, nd = .var x
  | .var x, _ => ⟨x, rfl⟩
  | .lit _ _, h => absurd h (by show ("lit" : Str) ≠ "var"; decide)
  | .bin .add _ _, h => absurd h (by show ("add" : Str) ≠ "var"; decide)
  | .bin .sub _ _, h => absurd h (by show ("sub" : Str) ≠ "var"; decide)
  | .bin .mul _ _, h => absurd h (by show ("mul" : Str) ≠ "var"; decide)
  | .sh true _ _, h => absurd h (by show ("shl" : Str) ≠ "var"; decide)
  | .sh false _ _, h => absurd h (by show ("shr" : Str) ≠ "var"; decide)
  | .cmp true _ _, h => absurd h (by show ("less" : Str) ≠ "var"; decide)
  | .cmp false _ _, h => absurd h (by show ("most" : Str) ≠ "var"; decide)
  | .lg true _ _, h => absurd h (by show ("and" : Str) ≠ "var"; decide)
  | .lg false _ _, h => absurd h (by show ("or" : Str) ≠ "var"; decide)
  | .cast _ _, h => absurd h (by show ("cast" : Str) ≠ "var"; decide)
  | .neg _, h => absurd h (by show ("neg" : Str) ≠ "var"; decide)
  | .ite _ _ _, h => absurd h (by show ("if" : Str) ≠ "var"; decide)
  | .nt _, h => absurd h (by show ("not" : Str) ≠ "var"; decide)
theorem sqt_dk {K : PySem.W.Frag} {u a : Addr} {H H1 : Hp} {kvs : List (Key × V)} {xs : List V} (e : Bu u H H1) (hu : H u = some (.dK kvs)) (h : SqT K H a xs) : SqT K H1 a xs := by
  rcases h with (h | ⟨o, h⟩) | h
  · exact .inl (.inl (e _ _ (ne_of h hu fun z => by cases z) h))
  · exact .inl (.inr ⟨o, e _ _ (ne_of h hu fun z => by cases z) h⟩)
  · exact .inr h
end Cf

namespace Cf
open PySem PySem.Spec PyProof.Rows L2 Evl
/-! ## a def with defaults -/
structure Dd (K : PySem.W.Frag) (mg : Str → Option Value) (x : Str) (st : Stmt) (ps : List Str) (dvs : List V) (f : Addr) (fd : FuncData) : Prop where
  F : FunD K x x (defArgs st) (defBody st) (defScope st) dvs [] f fd
  g : mg x = some (.ref f)
  b : Binds K fd ps []
  d : ∃ ds, Vals dvs ds ∧ Binds K fd ps ds
theorem dd_ok {P : Program} {w : World} {K : PySem.W.Frag} {mg : Str → Option Value} {base : Heap} {x : Str} {st : Stmt} {f : Addr} {fd : FuncData} {N ps : List Str} {dvs : List V} {k : Nat} {sp : Sp} (D : Dd K mg x st ps dvs f fd) (S : FnScope N ps (defScope st)) (len : ∀ vs H Q E, sp vs H Q E → vs.length = ps.length)
    (hbody : ∀ (cdv : Value) (A : Around) (outer : List Env) (s : Shared) (H : Hp) (vs : List V) (Q : VK) (E : XK), A.guards = some [] → Room k (A.deeper (envOfC x (defScope st) s.heap.objs.size f cdv)) → sp vs H Q E →
      ∃ t, PSs (cxOf CX0 P w K mg base N x (defScope st) f cdv A outer s H E).nox (defBody st) t ∧ t { nx := fun _ H' => Q .non H', rt := Q } (start N vs) H) : FnG P w K mg base CX0 (k + 1) f fd ps sp := by
  obtain ⟨oc, od, dV, kV, doc, pm, an, cdv, ct, osl, rfl, lk, hcd, _, _⟩ := D.F.ex
  exact fng_of lk hcd S len fun A outer s H vs Q E hG hr hsp => by
    obtain ⟨t, h, q⟩ := hbody cdv A outer s H vs Q E hG hr hsp
    exact ⟨t, h.nox, q⟩
def Cd (P : Program) (w : World) (K : PySem.W.Frag) (mg : Str → Option Value) (base : Heap) (k : Nat) (x : Str) (ps : List Str) (dvs : List V) (sp : Sp) : Prop :=
  ∃ (f : Addr) (fd : FuncData) (ds : List Value), FnG P w K mg base CX0 k f fd ps sp ∧ mg x = some (.ref f) ∧ PySem.W.keepIn K (.ref f) = true ∧ Vals dvs ds ∧ Binds K fd ps ds
theorem Cd.mk {P : Program} {w : World} {K : PySem.W.Frag} {mg : Str → Option Value} {base : Heap} {k : Nat} {x : Str} {st : Stmt} {ps : List Str} {dvs : List V} {sp : Sp} {f : Addr} {fd : FuncData} (D : Dd K mg x st ps dvs f fd) (F : FnG P w K mg base CX0 k f fd ps sp) : Cd P w K mg base k x ps dvs sp := by
  obtain ⟨ds, r, b⟩ := D.d
  exact ⟨f, fd, ds, F, D.g, D.F.kp, r, b⟩
theorem Cl.mkd {P : Program} {w : World} {K : PySem.W.Frag} {mg : Str → Option Value} {base : Heap} {k : Nat} {x : Str} {st : Stmt} {ps : List Str} {dvs : List V} {sp : Sp} {f : Addr} {fd : FuncData} (D : Dd K mg x st ps dvs f fd) (F : FnG P w K mg base CX0 k f fd ps sp) : Cl P w K mg base k x ps sp := ⟨f, fd, F, D.g, D.F.kp, D.b⟩
section
variable {X : Cx} {j k : Nat} {ps : List Str} {sp : Sp} {x : Str} {p pos : Pos} {e : Expr} {es : List Expr} {t : TA} {dvs : List V}
theorem pe_cd (C : Cd X.prog X.w X.K X.mg X.base j x ps dvs sp) (hG : X.A.guards = some []) (hr : Room k X.A) (hg : Gl X x) (ha : PA X (e :: es) t) (hjk : j ≤ k := by decide)
    (hdb : (x == ("__debug__" : Str)) = false := by decide)
    (he : starEach (e :: es) X.env = (false, eval e X.env) :: starEach es X.env := by rfl)
    (hpl : (backTo pos (starEach es X.env)).any (·.1) = false := by rfl) : PE X (.Call (.Name x p) (e :: es) [] pos) (tCall sp dvs E0 t) := by
  obtain ⟨f, fd, ds, F, g, kp, r, b⟩ := C
  exact pe_g F hG (hr.mono hjk) hg g kp b r pass0 ha hdb he hpl
end
/-! ## all nodes in order -/
def allF : Nat → Nd → List Nat → List (List Nat × Nd)
  | 0, _, _ => []
  | d + 1, nd, pt => (pt, nd) :: (nd.parts.zipIdx).flatMap fun q => allF d q.1 (pt ++ [q.2])
def isBad (m : Md) (it : List Nat × Nd) : Bool := match it.2 with
  | .lit n s => (m.lit n s).isNone
  | _ => false
theorem isBad_lit {m : Md} {pt : List Nat} {nd : Nd} : isBad m (pt, nd) = true ↔ ∃ n s, nd = .lit n s ∧ m.lit n s = none := by
  cases nd with
  | lit n s =>
    constructor
    · intro h
      exact ⟨n, s, rfl, Option.isNone_iff_eq_none.mp h⟩
    · intro h
      obtain ⟨a, b, h1, h2⟩ := h
      cases h1
      exact Option.isNone_iff_eq_none.mpr h2
  | _ => simp [isBad]
theorem find_flat {m : Md} {d : Nat} (pt : List Nat) : ∀ (es : List Nd) (k : Nat), (∀ e ∈ es, ∀ pt : List Nat, ((allF d e pt).find? (isBad m)).map Prod.fst = (e.bad m).map (pt ++ ·)) →
    (((es.zipIdx k).flatMap fun q => allF d q.1 (pt ++ [q.2])).find? (isBad m)).map Prod.fst = (badL m k es).map (pt ++ ·)
  | [], _, _ => rfl
  | e :: es, k, ih => by
    have h1 := ih e (List.mem_cons_self ..) (pt ++ [k])
    have h2 := find_flat pt es (k + 1) fun x hx => ih x (List.mem_cons_of_mem _ hx)
    rw [List.zipIdx_cons, List.flatMap_cons, List.find?_append]
    simp only [badL]
    cases hb : e.bad m with
    | none =>
      rw [hb] at h1
      have h3 : (allF d e (pt ++ [k])).find? (isBad m) = none := by
        cases hf : (allF d e (pt ++ [k])).find? (isBad m) with
        | none => rfl
        | some z => rw [hf] at h1; exact nomatch h1
      rw [h3]
      simpa using h2
    | some q =>
      rw [hb] at h1
      cases hf : (allF d e (pt ++ [k])).find? (isBad m) with
      | none => rw [hf] at h1; exact nomatch h1
      | some z =>
        rw [hf] at h1
        simp only [Option.map_some, Option.some_or] at h1 ⊢
        rw [Option.some.inj h1]
        simp
theorem find_all {m : Md} : ∀ (d : Nat) (nd : Nd) (pt : List Nat), nd.wf → nd.size ≤ d → ((allF d nd pt).find? (isBad m)).map Prod.fst = (nd.bad m).map (pt ++ ·)
  | 0, nd, pt, _, h => by have := size_sum nd; omega
  | d + 1, nd, pt, hw, h => by
    rw [allF, List.find?_cons]
    cases hb : isBad m (pt, nd) with
    | true =>
      obtain ⟨n, s, rfl, h2⟩ := isBad_lit.mp hb
      simp [Nd.bad, h2]
    | false =>
      have hn : ∀ n s, nd = .lit n s → m.lit n s ≠ none := fun n s z y => by
        have h3 : isBad m (pt, nd) = true := isBad_lit.mpr ⟨n, s, z, y⟩
        rw [hb] at h3
        exact nomatch h3
      rw [bad_parts hn]
      exact find_flat pt nd.parts 0 fun e he pt2 => find_all d e pt2 (parts_wf hw e he).1 (by have := (parts_wf hw e he).2; omega)
theorem all_wf : ∀ (d : Nat) (nd : Nd) (pt : List Nat), nd.wf → ∀ it ∈ allF d nd pt, it.2.wf
  | 0, _, _, _, it, h => nomatch h
  | d + 1, nd, pt, hw, it, h => by
    rw [allF] at h
    rcases List.mem_cons.mp h with rfl | h
    · exact hw
    · obtain ⟨q, hq, hi⟩ := List.mem_flatMap.mp h
      have hm := List.mem_zipIdx hq
      exact all_wf d q.1 _ (parts_wf hw q.1 (by rw [hm.2.2]; exact List.getElem_mem _)).1 it hi
theorem all_len : ∀ (d : Nat) (nd : Nd) (pt : List Nat), (allF d nd pt).length ≤ nd.size
  | 0, nd, _ => Nat.zero_le _
  | d + 1, nd, pt => by
    rw [allF, List.length_cons, List.length_flatMap]
    have : ∀ (es : List Nd) (k : Nat), ((es.zipIdx k).map fun q => (allF d q.1 (pt ++ [q.2])).length).sum ≤ sumSz es := fun es => by
      induction es with
      | nil => intro k; simp [sumSz]
      | cons e es ih =>
        intro k
        have h1 := all_len d e (pt ++ [k])
        have h2 := ih (k + 1)
        simp only [List.zipIdx_cons, List.map_cons, List.sum_cons, sumSz]
        omega
    have h1 := this nd.parts 0
    have h2 := size_sum nd
    omega
/-- a list of pairs (path, node) -/
def AllAt (K : PySem.W.Frag) (H : Hp) (l : Addr) (its : List (List Nat × Nd)) : Prop := ∃ ps : List Addr, H l = some (.lst (ps.map V.ref)) ∧ ps.length = its.length ∧ ∀ (j : Nat) (it : List Nat × Nd), its[j]? = some it → ∃ p t q, ps[j]? = some p ∧ H p = some (.tup [.ref t, .ref q]) ∧ SqT K H t (pathV it.1) ∧ TreeAt H q it.2
def spAll (K : PySem.W.Frag) (d : Nat) : Sp := fun vs H Q _ => ∃ p t nd pt, vs = [.ref p, .ref t] ∧ TreeAt H p nd ∧ nd.size ≤ d ∧ nd.size ≤ 60 ∧ SqT K H t (pathV pt) ∧ pt.length + nd.size ≤ 100 ∧ ∀ l H', H l = none → Ex H H' → AllAt K H' l (allF d nd pt) → Q (.ref l) H'
theorem flat_take {d : Nat} {pt : List Nat} : ∀ (es : List Nd) (k i : Nat) (e : Nd), es[i]? = some e → (((es.take (i + 1)).zipIdx k).flatMap fun q => allF d q.1 (pt ++ [q.2])) = (((es.take i).zipIdx k).flatMap fun q => allF d q.1 (pt ++ [q.2])) ++ allF d e (pt ++ [k + i])
  | x :: es, k, 0, e, h => by
    cases (Option.some.inj h)
    simp
  | x :: es, k, i + 1, e, h => by
    have ih := flat_take (d := d) (pt := pt) es (k + 1) i e h
    rw [show k + 1 + i = k + (i + 1) by omega] at ih
    simp only [List.take_succ_cons, List.zipIdx_cons, List.flatMap_cons, ih, List.append_assoc]
def spRef (K : PySem.W.Frag) : Sp := fun vs H Q _ => ∃ sch l p m rows nd, vs = [.ref sch, .ref l, .ref p] ∧ AtM K H sch m ∧ m.Ok ∧ VarsAt H l rows ∧ TreeAt H p nd ∧ nd.wf ∧ nd.size ≤ 30 ∧ ∀ v H', Ex H H' → Dp K H' v (admD m rows nd []) → Q v H'
def spAdmission (K : PySem.W.Frag) : Sp := fun vs H Q _ => ∃ sch l p m rows nd, vs = [.ref sch, .ref l, .ref p] ∧ AtM K H sch m ∧ m.Ok ∧ VarsAt H l rows ∧ rows.length ≤ 100 ∧ (∀ w ∈ rows, nameOk w.name = true) ∧ (rows.map Row.name).Nodup ∧ (∀ w ∈ rows, w.low ≤ w.high) ∧ TreeAt H p nd ∧ nd.wf ∧ nd.size ≤ 30 ∧ (∀ y ∈ nd.vars, y ∈ rows.map Row.name) ∧ nd.vars.Nodup ∧ ∀ v H', Ex H H' → Dp K H' v (admD m rows nd []) → Q v H'
theorem flat_len {d : Nat} {pt : List Nat} (es : List Nd) : ∀ k : Nat, ((es.zipIdx k).flatMap fun q => allF d q.1 (pt ++ [q.2])).length ≤ sumSz es := by
  induction es with
  | nil => intro k; simp [sumSz]
  | cons e es ih =>
    intro k
    have h1 := all_len d e (pt ++ [k])
    have h2 := ih (k + 1)
    simp only [List.zipIdx_cons, List.flatMap_cons, List.length_append, sumSz]
    omega
end Cf

namespace Cf
open PySem PySem.Spec PyProof.Rows L2 Evl
/-! ## what is shown of variables and expressions -/
def Row.dat (w : Row) : PyData := .tuple [.str w.name, .str w.kind.s, .int w.low, .int w.high]
theorem VarsAt.dp {K : PySem.W.Frag} {H : Hp} {l : Addr} {rows : List Row} (h : VarsAt H l rows) : Dp K H (.ref l) (.list (rows.map Row.dat)) := by
  obtain ⟨ps, a, b, c⟩ := h
  refine .lst (sq_of a) ?_
  clear a
  induction rows generalizing ps with
  | nil =>
    have : ps = [] := List.length_eq_zero_iff.mp b
    rw [this]
    exact .nil
  | cons w rows ih =>
    match ps, b, c with
    | p :: ps, b, c =>
      obtain ⟨p2, h1, h2⟩ := c 0 w rfl
      cases (Option.some.inj h1)
      exact .cons (.tup (st_of h2) (.cons (.str _) (.cons (.str _) (.cons (.int _) (.cons (.int _) .nil))))) (ih ps (Nat.succ.inj b) fun j x hx => c (j + 1) x hx)
def smStr (x : Str) : Bool := decide (x.cps.size ≤ 30) && x.cps.toList.all fun c => decide (c < 16 ^ 8)
theorem sm_str {x : Str} (h : smStr x = true) : Sm (.str x) := by
  unfold smStr at h
  rw [Bool.and_eq_true, decide_eq_true_iff] at h
  exact h
theorem kd_sm (k : Kd) : smStr k.s = true := by cases k <;> decide +kernel
theorem suf_sm {s : Str} (h : s ∈ sufs) : smStr s = true := by
  simp only [sufs, List.mem_cons, List.not_mem_nil, or_false] at h
  rcases h with rfl | rfl | rfl | rfl | rfl | rfl <;> decide +kernel
theorem rows_sm : ∀ {rows : List Row}, (∀ w ∈ rows, smStr w.name = true) → (∀ w ∈ rows, w.Fit) → SmAll (rows.map Row.dat)
  | [], _, _ => trivial
  | w :: rows, h, f => by
    obtain ⟨f1, f2, f3⟩ := f w (List.mem_cons_self ..)
    refine ⟨⟨sm_str (h w (List.mem_cons_self ..)), sm_str (kd_sm w.kind), ?_, ?_, trivial⟩, rows_sm (fun x hx => h x (List.mem_cons_of_mem _ hx)) fun x hx => f x (List.mem_cons_of_mem _ hx)⟩
    · show w.low.natAbs < 2 ^ 140
      omega
    · show w.high.natAbs < 2 ^ 140
      omega
theorem rows_sz : ∀ rows : List Row, szAll (rows.map Row.dat) = 5 * rows.length
  | [] => rfl
  | w :: rows => by
    have ih := rows_sz rows
    simp only [List.map_cons, szAll, Row.dat, szD, ih, List.length_cons]
    omega
theorem rows_dep : ∀ rows : List Row, PyData.depthAll (rows.map Row.dat) ≤ 1
  | [] => by simp [PyData.depthAll]
  | w :: rows => by
    have ih := rows_dep rows
    simp only [List.map_cons, PyData.depthAll, Row.dat, PyData.depth]
    omega
theorem word_sm : ∀ nd : Nd, Sm (.str nd.word)
  | .var _ => sm_str (by show smStr "var" = true; decide +kernel)
  | .lit _ _ => sm_str (by show smStr "lit" = true; decide +kernel)
  | .cast _ _ => sm_str (by show smStr "cast" = true; decide +kernel)
  | .neg _ => sm_str (by show smStr "neg" = true; decide +kernel)
  | .ite _ _ _ => sm_str (by show smStr "if" = true; decide +kernel)
  | .nt _ => sm_str (by show smStr "not" = true; decide +kernel)
  | .bin .add _ _ => sm_str (by show smStr "add" = true; decide +kernel)
  | .bin .sub _ _ => sm_str (by show smStr "sub" = true; decide +kernel)
  | .bin .mul _ _ => sm_str (by show smStr "mul" = true; decide +kernel)
  | .sh true _ _ => sm_str (by show smStr "shl" = true; decide +kernel)
  | .sh false _ _ => sm_str (by show smStr "shr" = true; decide +kernel)
  | .cmp true _ _ => sm_str (by show smStr "less" = true; decide +kernel)
  | .cmp false _ _ => sm_str (by show smStr "most" = true; decide +kernel)
  | .lg true _ _ => sm_str (by show smStr "and" = true; decide +kernel)
  | .lg false _ _ => sm_str (by show smStr "or" = true; decide +kernel)
theorem nd_sm : ∀ {nd : Nd}, nd.wf → (∀ x ∈ nd.vars, smStr x = true) → Sm nd.dat
  | .var x, _, h => ⟨word_sm (.var x), sm_str (h x (List.mem_cons_self ..)), trivial⟩
  | .lit n s, w, _ => ⟨word_sm (.lit n s), by obtain ⟨w1, w2, _⟩ := w; show n.natAbs < 2 ^ 140; omega, sm_str (suf_sm w.2.2), trivial⟩
  | .cast k e, w, h => ⟨word_sm (.cast k e), sm_str (kd_sm k), nd_sm w.2 h, trivial⟩
  | .neg e, w, h => ⟨word_sm (.neg e), nd_sm w.2 h, trivial⟩
  | .nt e, w, h => ⟨word_sm (.nt e), nd_sm w.2 h, trivial⟩
  | .sh b e k, w, h => ⟨word_sm (.sh b e k), nd_sm w.2.1 h, by obtain ⟨_, _, w1, w2⟩ := w; show k.natAbs < 2 ^ 140; omega, trivial⟩
  | .bin o e f, w, h => ⟨word_sm (.bin o e f), nd_sm w.2.2.1 (fun x hx => h x (List.mem_append_left _ hx)), nd_sm w.2.2.2 (fun x hx => h x (List.mem_append_right _ hx)), trivial⟩
  | .cmp o e f, w, h => ⟨word_sm (.cmp o e f), nd_sm w.2.2.1 (fun x hx => h x (List.mem_append_left _ hx)), nd_sm w.2.2.2 (fun x hx => h x (List.mem_append_right _ hx)), trivial⟩
  | .lg o e f, w, h => ⟨word_sm (.lg o e f), nd_sm w.2.2.1 (fun x hx => h x (List.mem_append_left _ hx)), nd_sm w.2.2.2 (fun x hx => h x (List.mem_append_right _ hx)), trivial⟩
  | .ite c e f, w, h => ⟨word_sm (.ite c e f), nd_sm w.2.2.2.1 (fun x hx => h x (List.mem_append_left _ hx)), nd_sm w.2.2.2.2.1 (fun x hx => h x (List.mem_append_right _ (List.mem_append_left _ hx))), nd_sm w.2.2.2.2.2 (fun x hx => h x (List.mem_append_right _ (List.mem_append_right _ hx))), trivial⟩
theorem nd_sz : ∀ nd : Nd, szD nd.dat ≤ 4 * nd.size
  | .var _ => by simp [Nd.dat, szD, szAll, Nd.size] | .lit _ _ => by simp [Nd.dat, szD, szAll, Nd.size]
  | .cast _ e => by have := nd_sz e; simp only [Nd.dat, szD, szAll, Nd.size]; omega
  | .neg e => by have := nd_sz e; simp only [Nd.dat, szD, szAll, Nd.size]; omega
  | .nt e => by have := nd_sz e; simp only [Nd.dat, szD, szAll, Nd.size]; omega
  | .sh _ e _ => by have := nd_sz e; simp only [Nd.dat, szD, szAll, Nd.size]; omega
  | .bin _ e f => by have := nd_sz e; have := nd_sz f; simp only [Nd.dat, szD, szAll, Nd.size]; omega
  | .cmp _ e f => by have := nd_sz e; have := nd_sz f; simp only [Nd.dat, szD, szAll, Nd.size]; omega
  | .lg _ e f => by have := nd_sz e; have := nd_sz f; simp only [Nd.dat, szD, szAll, Nd.size]; omega
  | .ite c e f => by have := nd_sz c; have := nd_sz e; have := nd_sz f; simp only [Nd.dat, szD, szAll, Nd.size]; omega
/-- where the first literal without a type stands is no deeper than the tree, and its path is small -/
theorem bad_len {m : Md} : ∀ {nd : Nd} {q : List Nat}, nd.bad m = some q → q.length < nd.size ∧ ∀ i ∈ q, i ≤ 2
  | .var _, q, h => nomatch h
  | .lit n s, q, h => by
    unfold Nd.bad at h
    split at h
    · cases (Option.some.inj h)
      exact ⟨by simp [Nd.size], fun i hi => nomatch hi⟩
    · exact nomatch h
  | .cast _ e, q, h => one h (fun z => bad_len z)
  | .neg e, q, h => one h (fun z => bad_len z)
  | .nt e, q, h => one h (fun z => bad_len z)
  | .sh _ e _, q, h => one h (fun z => bad_len z)
  | .bin _ e f, q, h => two h (fun z => bad_len z) (fun z => bad_len z)
  | .cmp _ e f, q, h => two h (fun z => bad_len z) (fun z => bad_len z)
  | .lg _ e f, q, h => two h (fun z => bad_len z) (fun z => bad_len z)
  | .ite c e f, q, h => by
    have h : ((c.bad m).map (0 :: ·)).or (((e.bad m).map (1 :: ·)).or ((f.bad m).map (2 :: ·))) = some q := h
    cases hc : c.bad m with
    | some z =>
      rw [hc] at h
      have h : 0 :: z = q := Option.some.inj h
      obtain ⟨b1, b2⟩ := bad_len hc
      rw [← h]
      exact ⟨by simp only [List.length_cons, Nd.size]; omega, fun i hi => by rcases List.mem_cons.mp hi with rfl | hi; omega; exact b2 i hi⟩
    | none =>
      rw [hc] at h
      cases he : e.bad m with
      | some z =>
        rw [he] at h
        have h : 1 :: z = q := Option.some.inj h
        obtain ⟨b1, b2⟩ := bad_len he
        rw [← h]
        exact ⟨by simp only [List.length_cons, Nd.size]; omega, fun i hi => by rcases List.mem_cons.mp hi with rfl | hi; omega; exact b2 i hi⟩
      | none =>
        rw [he] at h
        cases hf : f.bad m with
        | some z =>
          rw [hf] at h
          have h : 2 :: z = q := Option.some.inj h
          obtain ⟨b1, b2⟩ := bad_len hf
          rw [← h]
          exact ⟨by simp only [List.length_cons, Nd.size]; omega, fun i hi => by rcases List.mem_cons.mp hi with rfl | hi; omega; exact b2 i hi⟩
        | none => rw [hf] at h; exact nomatch h
where
  one {e : Nd} {q : List Nat} (h : (e.bad m).map (0 :: ·) = some q) (ih : ∀ {z : List Nat}, e.bad m = some z → z.length < e.size ∧ ∀ i ∈ z, i ≤ 2) : q.length < 1 + e.size ∧ ∀ i ∈ q, i ≤ 2 := by
    cases he : e.bad m with
    | none => rw [he] at h; exact nomatch h
    | some z =>
      rw [he] at h
      have h : 0 :: z = q := Option.some.inj h
      obtain ⟨b1, b2⟩ := ih he
      rw [← h]
      exact ⟨by simp only [List.length_cons]; omega, fun i hi => by rcases List.mem_cons.mp hi with rfl | hi; omega; exact b2 i hi⟩
  two {e f : Nd} {q : List Nat} (h : ((e.bad m).map (0 :: ·)).or ((f.bad m).map (1 :: ·)) = some q) (ih : ∀ {z : List Nat}, e.bad m = some z → z.length < e.size ∧ ∀ i ∈ z, i ≤ 2) (jh : ∀ {z : List Nat}, f.bad m = some z → z.length < f.size ∧ ∀ i ∈ z, i ≤ 2) : q.length < 1 + e.size + f.size ∧ ∀ i ∈ q, i ≤ 2 := by
    cases he : e.bad m with
    | some z =>
      rw [he] at h
      have h : 0 :: z = q := Option.some.inj h
      obtain ⟨b1, b2⟩ := ih he
      rw [← h]
      exact ⟨by simp only [List.length_cons]; omega, fun i hi => by rcases List.mem_cons.mp hi with rfl | hi; omega; exact b2 i hi⟩
    | none =>
      rw [he] at h
      cases hf : f.bad m with
      | some z =>
        rw [hf] at h
        have h : 1 :: z = q := Option.some.inj h
        obtain ⟨b1, b2⟩ := jh hf
        rw [← h]
        exact ⟨by simp only [List.length_cons]; omega, fun i hi => by rcases List.mem_cons.mp hi with rfl | hi; omega; exact b2 i hi⟩
      | none => rw [hf] at h; exact nomatch h
theorem admV_in {m : Md} {rows : List Row} {x : Str} (h : admV m rows = some x) : ∃ w ∈ rows, w.name = x := by
  unfold admV at h
  cases hf : rows.find? fun w => !m.rowOk w with
  | none => rw [hf] at h; exact nomatch h
  | some w =>
    rw [hf] at h
    exact ⟨w, List.mem_of_find?_eq_some hf, Option.some.inj h⟩
theorem path_sm : ∀ {q : List Nat}, (∀ i ∈ q, i ≤ 2) → SmAll (q.map fun i => PyData.int (i : Nat))
  | [], _ => trivial
  | i :: q, h => ⟨by have := h i (List.mem_cons_self ..); show ((i : Nat) : Int).natAbs < 2 ^ 140; omega, path_sm fun j hj => h j (List.mem_cons_of_mem _ hj)⟩
theorem path_sz : ∀ q : List Nat, szAll (q.map fun i => PyData.int (i : Nat)) = q.length
  | [] => rfl
  | i :: q => by
    have ih := path_sz q
    simp only [List.map_cons, szAll, szD, ih, List.length_cons]
    omega
theorem path_dep : ∀ q : List Nat, PyData.depthAll (q.map fun i => PyData.int (i : Nat)) = 0
  | [] => rfl
  | i :: q => by
    have ih := path_dep q
    simp only [List.map_cons, PyData.depthAll, PyData.depth, ih]
    rfl
theorem adm_sm {m : Md} {rows : List Row} {nd : Nd} (h : ∀ w ∈ rows, smStr w.name = true) (hs : nd.size ≤ 30) : Sm (admD m rows nd []) ∧ szD (admD m rows nd []) ≤ 40 ∧ (admD m rows nd []).depth ≤ 3 := by
  unfold admD
  cases hv : admV m rows with
  | some x =>
    obtain ⟨w, hw, rfl⟩ := admV_in hv
    exact ⟨⟨sm_str (by decide +kernel), sm_str (h w hw), trivial⟩, by simp [szD, szAll], by simp [PyData.depth, PyData.depthAll]⟩
  | none =>
    cases hb : nd.bad m with
    | none => exact ⟨trivial, by simp [szD], by simp [PyData.depth]⟩
    | some q =>
      obtain ⟨h1, h2⟩ := bad_len hb
      have e1 := path_sz q
      have e2 := path_dep q
      refine ⟨⟨sm_str (by decide +kernel), path_sm h2, trivial⟩, ?_, ?_⟩
      · simp only [List.nil_append, pathD, szD, szAll, e1]
        omega
      · simp only [List.nil_append, pathD, PyData.depth, PyData.depthAll, e2]
        omega
/-! ## data of tuples alone -/
mutual
def TupD : PyData → Prop
  | .tuple xs => TupDs xs
  | .list _ => False
  | .dict _ => False
  | _ => True
def TupDs : List PyData → Prop
  | [] => True
  | x :: xs => TupD x ∧ TupDs xs
end
theorem sqt_upd {K : PySem.W.Frag} {H : Hp} {l a : Addr} {ys xs : List V} {o : HO} (hl : H l = some (.lst ys)) (h : SqT K H a xs) : SqT K (upd H l o) a xs := by
  rcases h with (h | ⟨u, h⟩) | h
  · exact .inl (.inl (by rw [upd_ne (ne_of h hl fun z => by cases z)]; exact h))
  · exact .inl (.inr ⟨u, by rw [upd_ne (ne_of h hl fun z => by cases z)]; exact h⟩)
  · exact .inr h
mutual
theorem dp_upd {K : PySem.W.Frag} {H : Hp} {l : Addr} {ys : List V} {o : HO} (hl : H l = some (.lst ys)) : ∀ (d : PyData) (v : V), TupD d → Dp K H v d → Dp K (upd H l o) v d
  | .none, _, _, h => by cases h; exact .non
  | .bool b, _, _, h => by cases h; exact .bl b
  | .int i, _, _, h => by cases h; exact .int i
  | .str x, _, _, h => by cases h; exact .str x
  | .list _, _, t, _ => t.elim
  | .tuple ds, _, t, h => by
    cases h with
    | tup a b => exact .tup (sqt_upd hl a) (dps_upd hl ds _ t b)
  | .dict _, _, t, _ => t.elim
theorem dps_upd {K : PySem.W.Frag} {H : Hp} {l : Addr} {ys : List V} {o : HO} (hl : H l = some (.lst ys)) : ∀ (ds : List PyData) (vs : List V), TupDs ds → DpAll K H vs ds → DpAll K (upd H l o) vs ds
  | [], _, _, h => by cases h; exact .nil
  | d :: ds, _, t, h => by
    cases h with
    | cons a b => exact .cons (dp_upd hl d _ t.1 a) (dps_upd hl ds _ t.2 b)
end
end Cf

namespace Cf
open PySem PySem.Spec PyProof.Rows L2 Evl
/-! ## the kinds of the nodes -/
def comb (m : Md) : Option Kd → Option Kd → Option Kd
  | some a, some b => some (m.com a b)
  | _, _ => none
def Nd.own (m : Md) (vk : Str → Option Kd) : Nd → Option Kd
  | .var x => vk x
  | .lit n s => m.lit n s
  | .cast k _ => some k
  | .neg e => (e.own m vk).map m.prom
  | .sh _ e _ => (e.own m vk).map m.prom
  | .bin _ e f => comb m (e.own m vk) (f.own m vk)
  | .ite _ e f => comb m (e.own m vk) (f.own m vk)
  | .cmp _ e f => comb m (e.own m vk) (f.own m vk)
  | .nt _ => none
  | .lg _ _ _ => none
def Nd.hasK : Nd → Bool
  | .nt _ => false | .lg _ _ _ => false | _ => true
theorem isE_hasK : ∀ {nd : Nd}, nd.isE = true → nd.hasK = true
  | .var _, _ => rfl | .lit _ _, _ => rfl | .cast _ _, _ => rfl | .neg _, _ => rfl | .bin _ _ _, _ => rfl | .sh _ _ _, _ => rfl | .ite _ _ _, _ => rfl | .cmp _ _ _, _ => rfl
theorem or_none {α : Type} {a b : Option α} (h : a.or b = none) : a = none ∧ b = none := by
  cases a with
  | some _ => exact nomatch h
  | none => exact ⟨rfl, h⟩
theorem map_none {α β : Type} {f : α → β} {a : Option α} (h : a.map f = none) : a = none := by
  cases a with
  | some _ => exact nomatch h
  | none => rfl
theorem badL_none {m : Md} : ∀ {es : List Nd} {k : Nat}, badL m k es = none → ∀ e ∈ es, e.bad m = none
  | e :: es, k, h, x, hx => by
    obtain ⟨h1, h2⟩ := or_none (show ((e.bad m).map (k :: ·)).or (badL m (k + 1) es) = none from h)
    rcases List.mem_cons.mp hx with rfl | hx
    · exact map_none h1
    · exact badL_none h2 x hx
theorem bad_part {m : Md} {nd e : Nd} (h : nd.bad m = none) (he : e ∈ nd.parts) : e.bad m = none := by
  have hl : ∀ n s, nd = .lit n s → m.lit n s ≠ none := fun n s z => by
    subst z
    exact nomatch he
  rw [bad_parts hl] at h
  exact badL_none h e he
theorem own_some {m : Md} {vk : Str → Option Kd} : ∀ {nd : Nd}, nd.wf → nd.bad m = none → (∀ x ∈ nd.vars, ∃ k, vk x = some k) → nd.hasK = true → ∃ k, nd.own m vk = some k
  | .var x, _, _, h, _ => h x (List.mem_cons_self ..)
  | .lit n s, _, h, _, _ => by
    cases hl : m.lit n s with
    | some k => exact ⟨k, hl⟩
    | none =>
      unfold Nd.bad at h
      rw [if_pos hl] at h
      exact nomatch h
  | .cast k _, _, _, _, _ => ⟨k, rfl⟩
  | .neg e, w, h, v, _ => by
    obtain ⟨k, hk⟩ := own_some (nd := e) w.2 (bad_part h (List.mem_cons_self ..)) v (isE_hasK w.1)
    exact ⟨m.prom k, by simp only [Nd.own, hk, Option.map_some]⟩
  | .sh _ e _, w, h, v, _ => by
    obtain ⟨k, hk⟩ := own_some (nd := e) w.2.1 (bad_part h (List.mem_cons_self ..)) v (isE_hasK w.1)
    exact ⟨m.prom k, by simp only [Nd.own, hk, Option.map_some]⟩
  | .bin _ e f, w, h, v, _ => by
    obtain ⟨k, hk⟩ := own_some (nd := e) w.2.2.1 (bad_part h (List.mem_cons_self ..)) (fun x hx => v x (List.mem_append_left _ hx)) (isE_hasK w.1)
    obtain ⟨l, hl⟩ := own_some (nd := f) w.2.2.2 (bad_part h (List.mem_cons_of_mem _ (List.mem_cons_self ..))) (fun x hx => v x (List.mem_append_right _ hx)) (isE_hasK w.2.1)
    exact ⟨m.com k l, by simp only [Nd.own, hk, hl, comb]⟩
  | .cmp _ e f, w, h, v, _ => by
    obtain ⟨k, hk⟩ := own_some (nd := e) w.2.2.1 (bad_part h (List.mem_cons_self ..)) (fun x hx => v x (List.mem_append_left _ hx)) (isE_hasK w.1)
    obtain ⟨l, hl⟩ := own_some (nd := f) w.2.2.2 (bad_part h (List.mem_cons_of_mem _ (List.mem_cons_self ..))) (fun x hx => v x (List.mem_append_right _ hx)) (isE_hasK w.2.1)
    exact ⟨m.com k l, by simp only [Nd.own, hk, hl, comb]⟩
  | .ite c e f, w, h, v, _ => by
    obtain ⟨k, hk⟩ := own_some (nd := e) w.2.2.2.2.1 (bad_part h (List.mem_cons_of_mem _ (List.mem_cons_self ..))) (fun x hx => v x (List.mem_append_right _ (List.mem_append_left _ hx))) (isE_hasK w.2.1)
    obtain ⟨l, hl⟩ := own_some (nd := f) w.2.2.2.2.2 (bad_part h (List.mem_cons_of_mem _ (List.mem_cons_of_mem _ (List.mem_cons_self ..)))) (fun x hx => v x (List.mem_append_right _ (List.mem_append_right _ hx))) (isE_hasK w.2.2.1)
    exact ⟨m.com k l, by simp only [Nd.own, hk, hl, comb]⟩
/-! ## the rows of an expression -/
abbrev RowI := List Nat × Nd × List Nat
def plF (es : List Nd) (n i : Nat) : Nat := n + sumSz (es.take (i + 1)) - 1
def rowsF : Nat → Nd → List Nat → Nat → List RowI
  | 0, _, _, _ => []
  | d + 1, nd, pt, n => (nd.parts.zipIdx.flatMap fun q => rowsF d q.1 (pt ++ [q.2]) (n + sumSz (nd.parts.take q.2))) ++ [(pt, nd, (List.range nd.parts.length).map (plF nd.parts n))]
theorem flatG_take {α : Type} {g : Nd × Nat → List α} : ∀ (es : List Nd) (k i : Nat) (e : Nd), es[i]? = some e → ((es.take (i + 1)).zipIdx k).flatMap g = ((es.take i).zipIdx k).flatMap g ++ g (e, k + i)
  | x :: es, k, 0, e, h => by
    cases (Option.some.inj h)
    simp
  | x :: es, k, i + 1, e, h => by
    have ih := flatG_take (g := g) es (k + 1) i e h
    rw [show k + 1 + i = k + (i + 1) by omega] at ih
    simp only [List.take_succ_cons, List.zipIdx_cons, List.flatMap_cons, ih, List.append_assoc]
theorem rows_len : ∀ (d : Nat) (nd : Nd) (pt : List Nat) (n : Nat), nd.size ≤ d → (rowsF d nd pt n).length = nd.size
  | 0, nd, _, _, h => by have := size_sum nd; omega
  | d + 1, nd, pt, n, h => by
    have key : ∀ i, i ≤ nd.parts.length → (((nd.parts.take i).zipIdx).flatMap fun q => rowsF d q.1 (pt ++ [q.2]) (n + sumSz (nd.parts.take q.2))).length = sumSz (nd.parts.take i) := by
      intro i
      induction i with
      | zero => intro _; simp [sumSz]
      | succ i ih =>
        intro hi
        have he : nd.parts[i]? = some nd.parts[i] := List.getElem?_eq_getElem (by omega)
        have hz : nd.parts[i].size ≤ d := by
          have h1 := size_sum nd
          have h2 := sum_take nd.parts i _ he
          have h3 := sum_le nd.parts (i + 1)
          omega
        rw [flatG_take _ 0 i _ he, List.length_append, ih (by omega), rows_len d _ _ _ hz, sum_take _ _ _ he]
    have h1 := key nd.parts.length (Nat.le_refl _)
    rw [List.take_length] at h1
    rw [rowsF, List.length_append, h1, size_sum nd]
    simp only [List.length_cons, List.length_nil]
    omega
/-- the flat rows of the first i parts -/
def rowsP (d : Nat) (nd : Nd) (pt : List Nat) (n i : Nat) : List RowI := ((nd.parts.take i).zipIdx).flatMap fun q => rowsF d q.1 (pt ++ [q.2]) (n + sumSz (nd.parts.take q.2))
theorem rowsP_step {d : Nat} {nd : Nd} {pt : List Nat} {n i : Nat} {e : Nd} (h : nd.parts[i]? = some e) : rowsP d nd pt n (i + 1) = rowsP d nd pt n i ++ rowsF d e (pt ++ [i]) (n + sumSz (nd.parts.take i)) := by
  unfold rowsP
  rw [flatG_take _ 0 i _ h, Nat.zero_add]
theorem rowsP_len {d : Nat} {nd : Nd} {pt : List Nat} {n : Nat} (hd : nd.size ≤ d + 1) : ∀ i, i ≤ nd.parts.length → (rowsP d nd pt n i).length = sumSz (nd.parts.take i)
  | 0, _ => by simp [rowsP, sumSz]
  | i + 1, hi => by
    have he : nd.parts[i]? = some nd.parts[i] := List.getElem?_eq_getElem (by omega)
    have hz : nd.parts[i].size ≤ d := by
      have h1 := size_sum nd
      have h2 := sum_take nd.parts i _ he
      have h3 := sum_le nd.parts (i + 1)
      omega
    rw [rowsP_step he, List.length_append, rowsP_len hd i (by omega), rows_len d _ _ _ hz, sum_take _ _ _ he]
theorem rowsF_end {d : Nat} {nd : Nd} {pt : List Nat} {n : Nat} : rowsF (d + 1) nd pt n = rowsP d nd pt n nd.parts.length ++ [(pt, nd, (List.range nd.parts.length).map (plF nd.parts n))] := by
  unfold rowsP
  rw [List.take_length]
  rfl
/-- each row's places are rows before it, its parts' -/
def RowsOk (L : List RowI) : Prop := ∀ (j : Nat) (pt : List Nat) (nd : Nd) (pl : List Nat), L[j]? = some (pt, nd, pl) → pl.length = nd.parts.length ∧ ∀ (i : Nat) (e : Nd), nd.parts[i]? = some e → ∃ x ptx plx, pl[i]? = some x ∧ x < j ∧ L[x]? = some (ptx, e, plx)
theorem RowsOk.add {L : List RowI} {pt : List Nat} {nd : Nd} {pl : List Nat} (h : RowsOk L) (hl : pl.length = nd.parts.length) (hp : ∀ (i : Nat) (e : Nd), nd.parts[i]? = some e → ∃ x ptx plx, pl[i]? = some x ∧ L[x]? = some (ptx, e, plx)) : RowsOk (L ++ [(pt, nd, pl)]) := by
  intro j pt2 nd2 pl2 hj
  by_cases hlt : j < L.length
  · rw [List.getElem?_append_left hlt] at hj
    obtain ⟨h1, h2⟩ := h j pt2 nd2 pl2 hj
    refine ⟨h1, fun i e he => ?_⟩
    obtain ⟨x, ptx, plx, a, b, c⟩ := h2 i e he
    exact ⟨x, ptx, plx, a, b, by rw [List.getElem?_append_left (by omega)]; exact c⟩
  · rw [List.getElem?_append_right (by omega)] at hj
    have hz : j - L.length = 0 := by
      have := (List.getElem?_eq_some_iff.mp hj).1
      simp at this
      omega
    rw [hz] at hj
    cases (Option.some.inj hj)
    refine ⟨hl, fun i e he => ?_⟩
    obtain ⟨x, ptx, plx, a, c⟩ := hp i e he
    have hx := (List.getElem?_eq_some_iff.mp c).1
    exact ⟨x, ptx, plx, a, by omega, by rw [List.getElem?_append_left hx]; exact c⟩
theorem rows_ok : ∀ (d : Nat) (nd : Nd) (pt : List Nat) (pre : List RowI), nd.size ≤ d → RowsOk pre → RowsOk (pre ++ rowsF d nd pt pre.length)
  | 0, nd, _, _, h, _ => by have := size_sum nd; omega
  | d + 1, nd, pt, pre, h, hp => by
    have hz : ∀ {i : Nat} {e : Nd}, nd.parts[i]? = some e → e.size ≤ d := fun {i e} he => by
      have h1 := size_sum nd
      have h2 := sum_take nd.parts i _ he
      have h3 := sum_le nd.parts (i + 1)
      omega
    have key : ∀ i, i ≤ nd.parts.length → RowsOk (pre ++ rowsP d nd pt pre.length i) := by
      intro i
      induction i with
      | zero => intro _; simpa [rowsP] using hp
      | succ i ih =>
        intro hi
        have he : nd.parts[i]? = some nd.parts[i] := List.getElem?_eq_getElem (by omega)
        have h1 := rows_ok d nd.parts[i] (pt ++ [i]) _ (hz he) (ih (by omega))
        rw [List.length_append, rowsP_len (by omega) i (by omega), List.append_assoc] at h1
        rw [rowsP_step he]
        exact h1
    have last : ∀ i e, nd.parts[i]? = some e → ∃ ptx plx, (pre ++ rowsP d nd pt pre.length nd.parts.length)[plF nd.parts pre.length i]? = some (ptx, e, plx) := by
      have lk : ∀ c, c ≤ nd.parts.length → ∀ i e, i < c → nd.parts[i]? = some e → ∃ ptx plx, (pre ++ rowsP d nd pt pre.length c)[plF nd.parts pre.length i]? = some (ptx, e, plx) := by
        intro c
        induction c with
        | zero => intro _ i e hi; omega
        | succ c ih =>
          intro hc i e hi he
          have hec : nd.parts[c]? = some nd.parts[c] := List.getElem?_eq_getElem (by omega)
          have hl := rowsP_len (d := d) (pt := pt) (n := pre.length) (by omega) c (by omega)
          rw [rowsP_step hec, ← List.append_assoc]
          by_cases hic : i < c
          · obtain ⟨ptx, plx, z⟩ := ih (by omega) i e hic he
            have := (List.getElem?_eq_some_iff.mp z).1
            exact ⟨ptx, plx, by rw [List.getElem?_append_left this]; exact z⟩
          · have : i = c := by omega
            subst this
            rw [hec] at he
            cases (Option.some.inj he)
            have hs := hz hec
            have h2 := sum_take nd.parts i _ hec
            have h4 := size_sum nd.parts[i]
            have hlen : (pre ++ rowsP d nd pt pre.length i).length = pre.length + sumSz (nd.parts.take i) := by rw [List.length_append, hl]
            match d, hs, hl, hlen with
            | 0, hs, _, _ => omega
            | d + 1, hs, hl, hlen =>
              rw [rowsF_end, ← List.append_assoc]
              have l2 := rowsP_len (d := d) (pt := pt ++ [i]) (n := pre.length + sumSz (nd.parts.take i)) (by omega) nd.parts[i].parts.length (Nat.le_refl _)
              rw [List.take_length] at l2
              have l3 : ((pre ++ rowsP (d + 1) nd pt pre.length i) ++ rowsP d nd.parts[i] (pt ++ [i]) (pre.length + sumSz (nd.parts.take i)) nd.parts[i].parts.length).length = plF nd.parts pre.length i := by
                rw [List.length_append, hlen, l2]
                unfold plF
                omega
              refine ⟨pt ++ [i], (List.range nd.parts[i].parts.length).map (plF nd.parts[i].parts (pre.length + sumSz (nd.parts.take i))), ?_⟩
              rw [← l3, List.getElem?_append_right (Nat.le_refl _), Nat.sub_self]
              rfl
      exact fun i e he => lk _ (Nat.le_refl _) i e (List.getElem?_eq_some_iff.mp he).1 he
    rw [rowsF_end, ← List.append_assoc]
    refine (key _ (Nat.le_refl _)).add (by simp) fun i e he => ?_
    obtain ⟨ptx, plx, z⟩ := last i e he
    have hi := (List.getElem?_eq_some_iff.mp he).1
    exact ⟨_, ptx, plx, by rw [List.getElem?_map, List.getElem?_range hi]; rfl, z⟩
theorem rows_all {P : Nd → Prop} (hP : ∀ nd e, P nd → e ∈ nd.parts → P e) : ∀ (d : Nat) (nd : Nd) (pt : List Nat) (n : Nat), P nd → ∀ it ∈ rowsF d nd pt n, P it.2.1
  | 0, _, _, _, _, it, h => nomatch h
  | d + 1, nd, pt, n, hn, it, h => by
    rw [rowsF] at h
    rcases List.mem_append.mp h with h | h
    · obtain ⟨q, hq, hi⟩ := List.mem_flatMap.mp h
      have hm := List.mem_zipIdx hq
      exact rows_all hP d q.1 _ _ (hP nd q.1 hn (by rw [hm.2.2]; exact List.getElem_mem _)) it hi
    · simp only [List.mem_cons, List.not_mem_nil, or_false] at h
      rw [h]
      exact hn
theorem sqt_bu {K : PySem.W.Frag} {u a : Addr} {H H1 : Hp} {ys xs : List V} (e : Bu u H H1) (hu : H u = some (.lst ys)) (h : SqT K H a xs) : SqT K H1 a xs := by
  rcases h with (h | ⟨o, h⟩) | h
  · exact .inl (.inl (e _ _ (ne_of h hu fun z => by cases z) h))
  · exact .inl (.inr ⟨o, e _ _ (ne_of h hu fun z => by cases z) h⟩)
  · exact .inr h
theorem TupK.ofBu {l : Addr} {ys : List V} {H H1 : Hp} (e : Bu l H H1) (hl : H l = some (.lst ys)) : TupK H H1 := fun b xs h => e b _ (fun z => by rw [z, hl] at h; exact nomatch h) h
def natsV (ns : List Nat) : List V := ns.map fun x => V.int (x : Nat)
/-- a list of triples (path, node, places); no places list is of X -/
def RowsAt (K : PySem.W.Frag) (H : Hp) (l : Addr) (its : List RowI) (X : Addr → Prop) : Prop := ∃ ps : List Addr, H l = some (.lst (ps.map V.ref)) ∧ ps.length = its.length ∧ ∀ (j : Nat) (it : RowI), its[j]? = some it → ∃ p t q r, ps[j]? = some p ∧ H p = some (.tup [.ref t, .ref q, .ref r]) ∧ SqT K H t (pathV it.1) ∧ TreeAt H q it.2.1 ∧ H r = some (.lst (natsV it.2.2)) ∧ ¬ X r ∧ r ≠ l
theorem some_ex {H H' : Hp} {x : Addr} (e : Ex H H') (h : H x ≠ none) : H' x ≠ none := by
  cases hq : H x with
  | none => exact absurd hq h
  | some o => rw [e _ _ hq]; exact fun z => nomatch z
theorem RowsAt.ex {K : PySem.W.Frag} {H H' : Hp} {l : Addr} {its : List RowI} {X : Addr → Prop} (h : RowsAt K H l its X) (e : Ex H H') : RowsAt K H' l its X := by
  obtain ⟨ps, a, b, c⟩ := h
  refine ⟨ps, e _ _ a, b, fun j it hj => ?_⟩
  obtain ⟨p, t, q, r, z1, z2, z3, z4, z5, z6⟩ := c j it hj
  exact ⟨p, t, q, r, z1, e _ _ z2, ex_t e z3, z4.ex e, e _ _ z5, z6⟩
/-- another list changes -/
theorem RowsAt.bu {K : PySem.W.Frag} {H H' : Hp} {l u : Addr} {its : List RowI} {X : Addr → Prop} {ys : List V} (h : RowsAt K H l its X) (hu : H u = some (.lst ys)) (nu : u ≠ l) (hX : X u) (e : Bu u H H') : RowsAt K H' l its X := by
  obtain ⟨ps, a, b, c⟩ := h
  refine ⟨ps, e _ _ (Ne.symm nu) a, b, fun j it hj => ?_⟩
  obtain ⟨p, t, q, r, z1, z2, z3, z4, z5, z6, z7⟩ := c j it hj
  exact ⟨p, t, q, r, z1, e _ _ (fun z => by rw [z, hu] at z2; exact nomatch z2) z2, sqt_bu e hu z3, z4.tk (TupK.ofBu e hu), e _ _ (fun z => z6 (by rw [z]; exact hX)) z5, z6, z7⟩
theorem RowsAt.sub {K : PySem.W.Frag} {H : Hp} {l : Addr} {its : List RowI} {X Y : Addr → Prop} (h : RowsAt K H l its X) (s : ∀ r, H r ≠ none → ¬ X r → ¬ Y r) : RowsAt K H l its Y := by
  obtain ⟨ps, a, b, c⟩ := h
  refine ⟨ps, a, b, fun j it hj => ?_⟩
  obtain ⟨p, t, q, r, z1, z2, z3, z4, z5, z6, z7⟩ := c j it hj
  exact ⟨p, t, q, r, z1, z2, z3, z4, z5, s r (by rw [z5]; exact fun z => nomatch z) z6, z7⟩
/-- a row more -/
theorem RowsAt.add {K : PySem.W.Frag} {H : Hp} {l p t q r : Addr} {its : List RowI} {X : Addr → Prop} {pt : List Nat} {nd : Nd} {pl : List Nat} {ys : List V} (h : RowsAt K H l its X) (hl : H l = some (.lst ys)) (hp : H p = some (.tup [.ref t, .ref q, .ref r])) (ht : SqT K H t (pathV pt)) (hT : TreeAt H q nd) (hr : H r = some (.lst (natsV pl))) (hX : ¬ X r) (nr : r ≠ l) :
    RowsAt K (upd H l (.lst (ys ++ [.ref p]))) l (its ++ [(pt, nd, pl)]) X := by
  obtain ⟨ps, a, b, c⟩ := h
  rw [a] at hl
  have e := HO.lst.inj (Option.some.inj hl)
  subst e
  have tU : TupK H (upd H l (.lst (ps.map V.ref ++ [.ref p]))) := TupK.upd a fun xs z => nomatch z
  refine ⟨ps ++ [p], by rw [upd_same, List.map_append]; rfl, by rw [List.length_append, List.length_append, b]; rfl, fun j it hj => ?_⟩
  by_cases hjl : j < its.length
  · rw [List.getElem?_append_left hjl] at hj
    obtain ⟨p2, t2, q2, r2, z1, z2, z3, z4, z5, z6, z7⟩ := c j it hj
    exact ⟨p2, t2, q2, r2, by rw [List.getElem?_append_left (by omega)]; exact z1, tU _ _ z2, sqt_upd a z3, z4.tk tU, by rw [upd_ne z7]; exact z5, z6, z7⟩
  · rw [List.getElem?_append_right (by omega)] at hj
    have hz : j - its.length = 0 := by
      have := (List.getElem?_eq_some_iff.mp hj).1
      simp at this
      omega
    rw [hz] at hj
    cases (Option.some.inj hj)
    exact ⟨p, t, q, r, by rw [List.getElem?_append_right (by omega), b, hz]; rfl, tU _ _ hp, sqt_upd a ht, hT.tk tU, by rw [upd_ne nr]; exact hr, hX, nr⟩
def spAddRows (K : PySem.W.Frag) (d : Nat) : Sp := fun vs H Q _ => ∃ l t p nd pt its X, vs = [.ref l, .ref t, .ref p] ∧ TreeAt H p nd ∧ nd.size ≤ d ∧ nd.size ≤ 60 ∧ SqT K H t (pathV pt) ∧ pt.length + nd.size ≤ 100 ∧ its.length + nd.size ≤ 1000 ∧ RowsAt K H l its X ∧ (∀ x, X x → H x ≠ none) ∧
  ∀ H', Bu l H H' → RowsAt K H' l (its ++ rowsF d nd pt its.length) X → Q (.int ((its.length + nd.size - 1 : Nat) : Int)) H'
def spRows (K : PySem.W.Frag) : Sp := fun vs H Q _ => ∃ p nd X, vs = [.ref p] ∧ TreeAt H p nd ∧ nd.size ≤ 30 ∧ (∀ x, X x → H x ≠ none) ∧ ∀ l H', H l = none → Ex H H' → RowsAt K H' l (rowsF 30 nd [] 0) X → Q (.ref l) H'
end Cf

namespace Cf
open PySem PySem.Spec PyProof.Rows L2 Evl
/-! ## kinds by name -/
def kindL (rows : List Row) : List (Key × V) := rows.map fun w => (.inr w.name, w.kind.v)
def vkOf (rows : List Row) (x : Str) : Option Kd := (rows.find? fun w => decide (w.name = x)).map Row.kind
theorem kind_val (x : Str) : ∀ rows : List Row, valV (kindL rows) (.inr x) = (vkOf rows x).map Kd.v
  | [] => rfl
  | w :: rows => by
    have ih := kind_val x rows
    unfold valV kindL vkOf at ih ⊢
    rw [List.map_cons, List.find?_cons, List.find?_cons]
    by_cases h : w.name = x
    · rw [decide_eq_true h, decide_eq_true (by rw [h])]
      rfl
    · rw [decide_eq_false h, decide_eq_false (fun z => h (Sum.inr.inj z))]
      exact ih
theorem vk_none {rows : List Row} {x : Str} (h : x ∉ rows.map Row.name) : vkOf rows x = none := by
  unfold vkOf
  rw [List.find?_eq_none.mpr fun w hw => by
    rw [decide_eq_true_iff]
    exact fun z => h (List.mem_map.mpr ⟨w, hw, z⟩)]
  rfl
theorem vk_some {rows : List Row} {x : Str} (h : x ∈ rows.map Row.name) : ∃ k, vkOf rows x = some k := by
  unfold vkOf
  cases hf : rows.find? fun w => decide (w.name = x) with
  | some w => exact ⟨w.kind, rfl⟩
  | none =>
    obtain ⟨w, hw, e⟩ := List.mem_map.mp h
    exact absurd (decide_eq_true e) (by simpa using List.find?_eq_none.mp hf w hw)
theorem kind_put {rows : List Row} {w : Row} (h : w.name ∉ rows.map Row.name) : putK (kindL rows) (.inr w.name) w.kind.v = kindL (rows ++ [w]) := by
  unfold putK
  rw [valV_any, kind_val, vk_none h]
  unfold kindL
  rw [List.map_append]
  rfl
def spKBN : Sp := fun vs H Q _ => ∃ l rows, vs = [.ref l] ∧ VarsAt H l rows ∧ rows.length ≤ 100 ∧ (rows.map Row.name).Nodup ∧ ∀ d H', H d = none → Ex H H' → H' d = some (.dK (kindL rows)) → Q (.ref d) H'
theorem ev_dgetV {σ : L2.St} {H : Hp} {ta tk : TE} {bg : Addr} {kvs : List (Key × V)} {k : Str} {v : V} (ha : Ev ta σ H (.ref bg)) (hk : Ev tk σ H (.str k)) (h : H bg = some (.dK kvs)) (hv : valV kvs (.inr k) = some v) : Ev (tDGet ta tk) σ H v := fun H1 e Q q =>
  ha H1 e _ fun H2 e2 => hk H2 (e.trans e2) _ fun H3 e3 => ⟨bg, v, rfl, by
    have g := DGet.k (k := .inr k) (e3 _ _ (e2 _ _ (e _ _ h)))
    rw [hv] at g
    exact g, q H3 (e2.trans e3)⟩
/-! ## a node's kind -/
def KdOk (m : Md) (rows : List Row) (nd : Nd) : Prop := nd.wf ∧ nd.bad m = none ∧ ∀ x ∈ nd.vars, ∃ k, vkOf rows x = some k
theorem KdOk.part {m : Md} {rows : List Row} {nd e : Nd} (h : KdOk m rows nd) (he : e ∈ nd.parts) : KdOk m rows e :=
  ⟨(parts_wf h.1 e he).1, bad_part h.2.1 he, fun x hx => h.2.2 x (parts_vars he x hx)⟩
theorem KdOk.some {m : Md} {rows : List Row} {nd : Nd} (h : KdOk m rows nd) (hk : nd.hasK = true) : ∃ k, nd.own m (vkOf rows) = .some k := own_some h.1 h.2.1 h.2.2 hk
def ownV (m : Md) (rows : List Row) (nd : Nd) : V := optV (nd.own m (vkOf rows))
def preOwn (K : PySem.W.Frag) : List V → Hp → V → Prop := fun vs H v => ∃ sch nm q ol m rows nd, vs = [.ref sch, .ref nm, .ref q, .ref ol] ∧ AtM K H sch m ∧ m.Ok ∧ H nm = some (.dK (kindL rows)) ∧ TreeAt H q nd ∧ KdOk m rows nd ∧ H ol = some (.lst (nd.parts.map (ownV m rows))) ∧ v = ownV m rows nd
theorem spOwn {K : PySem.W.Frag} {H : Hp} {sch nm q ol : Addr} {m : Md} {rows : List Row} {nd : Nd} (hm : AtM K H sch m) (ho : m.Ok) (hn : H nm = some (.dK (kindL rows))) (hT : TreeAt H q nd) (hk : KdOk m rows nd) (hl : H ol = some (.lst (nd.parts.map (ownV m rows)))) : SpV (PV (preOwn K)) [.ref sch, .ref nm, .ref q, .ref ol] H (ownV m rows nd) :=
  PV.sp fun H1 e => ⟨sch, nm, q, ol, m, rows, nd, rfl, hm.ex e, ho, e _ _ hn, hT.ex e, hk, e _ _ hl, rfl⟩
theorem own_prom : ∀ {nd : Nd}, nd.wf → inV (.str nd.word) [.str "neg", .str "shl", .str "shr"] = true → ∃ e, nd.parts = [e] ∧ e.isE = true ∧ ∀ (m : Md) (vk : Str → Option Kd), nd.own m vk = (e.own m vk).map m.prom
  | .neg e, w, _ => ⟨e, rfl, w.1, fun _ _ => rfl⟩
  | .sh _ e _, w, _ => ⟨e, rfl, w.1, fun _ _ => rfl⟩
  | .var _, _, h => absurd h (by show ¬ (inV (.str "var") _ = true); decide)
  | .lit _ _, _, h => absurd h (by show ¬ (inV (.str "lit") _ = true); decide)
  | .cast _ _, _, h => absurd h (by show ¬ (inV (.str "cast") _ = true); decide)
  | .ite _ _ _, _, h => absurd h (by show ¬ (inV (.str "if") _ = true); decide)
  | .nt _, _, h => absurd h (by show ¬ (inV (.str "not") _ = true); decide)
  | .bin .add _ _, _, h => absurd h (by show ¬ (inV (.str "add") _ = true); decide)
  | .bin .sub _ _, _, h => absurd h (by show ¬ (inV (.str "sub") _ = true); decide)
  | .bin .mul _ _, _, h => absurd h (by show ¬ (inV (.str "mul") _ = true); decide)
  | .cmp true _ _, _, h => absurd h (by show ¬ (inV (.str "less") _ = true); decide)
  | .cmp false _ _, _, h => absurd h (by show ¬ (inV (.str "most") _ = true); decide)
  | .lg true _ _, _, h => absurd h (by show ¬ (inV (.str "and") _ = true); decide)
  | .lg false _ _, _, h => absurd h (by show ¬ (inV (.str "or") _ = true); decide)
theorem own_no : ∀ {nd : Nd}, inV (.str nd.word) [.str "not", .str "and", .str "or"] = true → ∀ (m : Md) (vk : Str → Option Kd), nd.own m vk = none
  | .nt _, _ => fun _ _ => rfl
  | .lg _ _ _, _ => fun _ _ => rfl
  | .neg _, h => absurd h (by show ¬ (inV (.str "neg") _ = true); decide)
  | .sh true _ _, h => absurd h (by show ¬ (inV (.str "shl") _ = true); decide)
  | .sh false _ _, h => absurd h (by show ¬ (inV (.str "shr") _ = true); decide)
  | .var _, h => absurd h (by show ¬ (inV (.str "var") _ = true); decide)
  | .lit _ _, h => absurd h (by show ¬ (inV (.str "lit") _ = true); decide)
  | .cast _ _, h => absurd h (by show ¬ (inV (.str "cast") _ = true); decide)
  | .ite _ _ _, h => absurd h (by show ¬ (inV (.str "if") _ = true); decide)
  | .bin .add _ _, h => absurd h (by show ¬ (inV (.str "add") _ = true); decide)
  | .bin .sub _ _, h => absurd h (by show ¬ (inV (.str "sub") _ = true); decide)
  | .bin .mul _ _, h => absurd h (by show ¬ (inV (.str "mul") _ = true); decide)
  | .cmp true _ _, h => absurd h (by show ¬ (inV (.str "less") _ = true); decide)
  | .cmp false _ _, h => absurd h (by show ¬ (inV (.str "most") _ = true); decide)
theorem own_comb : ∀ {nd : Nd}, nd.wf → nd.word ≠ "var" → nd.word ≠ "lit" → nd.word ≠ "cast" → inV (.str nd.word) [.str "neg", .str "shl", .str "shr"] = false → inV (.str nd.word) [.str "not", .str "and", .str "or"] = false →
    ∃ e f, (nd.parts = [e, f] ∨ ∃ c, nd.parts = [c, e, f]) ∧ e.isE = true ∧ f.isE = true ∧ ∀ (m : Md) (vk : Str → Option Kd), nd.own m vk = comb m (e.own m vk) (f.own m vk)
  | .bin _ e f, w, _, _, _, _, _ => ⟨e, f, .inl rfl, w.1, w.2.1, fun _ _ => rfl⟩
  | .cmp _ e f, w, _, _, _, _, _ => ⟨e, f, .inl rfl, w.1, w.2.1, fun _ _ => rfl⟩
  | .ite c e f, w, _, _, _, _, _ => ⟨e, f, .inr ⟨c, rfl⟩, w.2.1, w.2.2.1, fun _ _ => rfl⟩
  | .var _, _, h, _, _, _, _ => absurd rfl h
  | .lit _ _, _, _, h, _, _, _ => absurd rfl h
  | .cast _ _, _, _, _, h, _, _ => absurd rfl h
  | .neg _, _, _, _, _, h, _ => absurd h (by show ¬ (inV (.str "neg") _ = false); decide)
  | .sh true _ _, _, _, _, _, h, _ => absurd h (by show ¬ (inV (.str "shl") _ = false); decide)
  | .sh false _ _, _, _, _, _, h, _ => absurd h (by show ¬ (inV (.str "shr") _ = false); decide)
  | .nt _, _, _, _, _, _, h => absurd h (by show ¬ (inV (.str "not") _ = false); decide)
  | .lg true _ _, _, _, _, _, _, h => absurd h (by show ¬ (inV (.str "and") _ = false); decide)
  | .lg false _ _, _, _, _, _, _, h => absurd h (by show ¬ (inV (.str "or") _ = false); decide)
theorem word_cast : ∀ {nd : Nd}, nd.word = "cast" → ∃ k e, nd = .cast k e
  | .cast k e, _ => ⟨k, e, rfl⟩
  | .var _, h => absurd h (by show ("var" : Str) ≠ "cast"; decide)
  | .lit _ _, h => absurd h (by show ("lit" : Str) ≠ "cast"; decide)
  | .bin .add _ _, h => absurd h (by show ("add" : Str) ≠ "cast"; decide)
  | .bin .sub _ _, h => absurd h (by show ("sub" : Str) ≠ "cast"; decide)
  | .bin .mul _ _, h => absurd h (by show ("mul" : Str) ≠ "cast"; decide)
  | .sh true _ _, h => absurd h (by show ("shl" : Str) ≠ "cast"; decide)
  | .sh false _ _, h => absurd h (by show ("shr" : Str) ≠ "cast"; decide)
  | .cmp true _ _, h => absurd h (by show ("less" : Str) ≠ "cast"; decide)
  | .cmp false _ _, h => absurd h (by show ("most" : Str) ≠ "cast"; decide)
  | .lg true _ _, h => absurd h (by show ("and" : Str) ≠ "cast"; decide)
  | .lg false _ _, h => absurd h (by show ("or" : Str) ≠ "cast"; decide)
  | .neg _, h => absurd h (by show ("neg" : Str) ≠ "cast"; decide)
  | .ite _ _ _, h => absurd h (by show ("if" : Str) ≠ "cast"; decide)
  | .nt _, h => absurd h (by show ("not" : Str) ≠ "cast"; decide)
/-- [e for x in xs], e a value that changes nothing -/
theorem el_lcLA {K : PySem.W.Frag} {te : TE} {tl : TE} {σ : L2.St} {H : Hp} {j : Nat} {vs : List Nat} {a : Addr} {xs : List V} (v : Nat → V) (h : Ev tl σ H (.ref a)) (hx : SqL K H a xs) (hz : xs.length ≤ 40000) (hw : ∀ x, wipe ((wipe σ vs).set j (some x)) vs = wipe σ vs)
    (he : ∀ (i : Nat) (x : V) H1, Ex H H1 → xs[i]? = some x → Ev te ((wipe σ vs).set j (some x)) H1 (v i)) : EvL (tLc (iList K tl) (gName j) tYes te vs) σ H (given xs.length (fun _ => true) v) := fun H0 e Q q => h H0 e _ fun H1 e1 => ⟨a, rfl, ⟨_, ex_l (e.trans e1) hx⟩, fun Dl hD =>
  lc_it walk_list (Cw H1 (fun _ => true) v Dl) ⟨hD, Ex.new hD, upd_same⟩ (fun i G _ p => ex_l ((e.trans e1).trans p.2.1) hx) (fun i x G G' hi p y => by
    obtain ⟨rfl, hc⟩ := y
    exact ⟨hw _, cw_turn p (by omega) (fun H3 e3 Q q => q H3 (Ex.refl H3)) (fun hf => he i x H1 (e.trans e1) hc)⟩) (fun G p => q Dl G (fresh_back e1 p.1) (e1.trans p.2.1) p.2.2)⟩
def spKinds (K : PySem.W.Frag) : Sp := fun vs H Q _ => ∃ sch nm l m rows its X, vs = [.ref sch, .ref nm, .ref l] ∧ AtM K H sch m ∧ m.Ok ∧ H nm = some (.dK (kindL rows)) ∧ RowsAt K H l its X ∧ RowsOk its ∧ (∀ it ∈ its, KdOk m rows it.2.1) ∧ its.length ≤ 1000 ∧
  ∀ kl H', H kl = none → Ex H H' → H' kl = some (.lst (its.map fun it => ownV m rows it.2.1)) → Q (.ref kl) H'
end Cf

namespace Cf
open PySem PySem.Spec PyProof.Rows L2 Evl
theorem adm_cases (m : Md) (rows : List Row) (nd : Nd) (pt : List Nat) : (admD m rows nd pt = .none ∧ admV m rows = none ∧ nd.bad m = none) ∨ ∃ ds, admD m rows nd pt = .tuple ds := by
  unfold admD
  cases admV m rows with
  | some x => exact .inr ⟨_, rfl⟩
  | none =>
    cases nd.bad m with
    | some q => exact .inr ⟨_, rfl⟩
    | none => exact .inl ⟨rfl, rfl, rfl⟩
theorem dp_non {K : PySem.W.Frag} {H : Hp} {v : V} (h : Dp K H v .none) : v = .non := by cases h; rfl
theorem dp_tuple {K : PySem.W.Frag} {H : Hp} {v : V} {ds : List PyData} (h : Dp K H v (.tuple ds)) : ∃ a, v = .ref a := by cases h; exact ⟨_, rfl⟩
/-- what it raises stands and is shown so -/
def OutD (K : PySem.W.Frag) (C : Addr) (d : PyData) (H : Hp) (E : XK) : Prop := ∀ v H', Ex H H' → Dp K H' v d → Out C v H' E
def spCA (K : PySem.W.Frag) (C : Addr) : Sp := fun vs H Q E => ∃ sch l p m rows nd, vs = [.ref sch, .ref l, .ref p] ∧ AtM K H sch m ∧ m.Ok ∧ VarsAt H l rows ∧ TreeAt H p nd ∧ nd.wf ∧ nd.size ≤ 30 ∧ (admD m rows nd [] = .none → ∀ H', Ex H H' → Q .non H') ∧ (admD m rows nd [] ≠ .none → OutD K C (admD m rows nd []) H E)
/-- the type of an expression, None for a condition -/
def tyV (m : Md) (rows : List Row) (nd : Nd) : V := if nd.isE = true then ownV m rows nd else .non
/-- expression and variables are right -/
structure Right (K : PySem.W.Frag) (H : Hp) (sch l p : Addr) (m : Md) (rows : List Row) (nd : Nd) : Prop where
  hm : AtM K H sch m
  ho : m.Ok
  hV : VarsAt H l rows
  hz : rows.length ≤ 100
  hnm : ∀ w ∈ rows, nameOk w.name = true
  hnd : (rows.map Row.name).Nodup
  hle : ∀ w ∈ rows, w.low ≤ w.high
  hT : TreeAt H p nd
  hw : nd.wf
  hs : nd.size ≤ 30
  hv : ∀ y ∈ nd.vars, y ∈ rows.map Row.name
  hvn : nd.vars.Nodup
theorem Right.ex {K : PySem.W.Frag} {H H' : Hp} {sch l p : Addr} {m : Md} {rows : List Row} {nd : Nd} (h : Right K H sch l p m rows nd) (e : Ex H H') : Right K H' sch l p m rows nd :=
  ⟨h.hm.ex e, h.ho, h.hV.ex e, h.hz, h.hnm, h.hnd, h.hle, h.hT.ex e, h.hw, h.hs, h.hv, h.hvn⟩
def spType (K : PySem.W.Frag) (C : Addr) : Sp := fun vs H Q E => ∃ sch l p m rows nd, vs = [.ref sch, .ref l, .ref p] ∧ Right K H sch l p m rows nd ∧ (admD m rows nd [] = .none → ∀ H', Ex H H' → Q (tyV m rows nd) H') ∧ (admD m rows nd [] ≠ .none → OutD K C (admD m rows nd []) H E)
def optD : Option Kd → PyData
  | none => .none
  | some k => .str k.s
theorem opt_dp {K : PySem.W.Frag} {H : Hp} : ∀ o : Option Kd, Dp K H (optV o) (optD o)
  | none => .non
  | some k => .str k.s
def tyD (m : Md) (rows : List Row) (nd : Nd) : PyData := if nd.isE = true then optD (nd.own m (vkOf rows)) else .none
theorem ty_dp {K : PySem.W.Frag} {H : Hp} {m : Md} {rows : List Row} {nd : Nd} : Dp K H (tyV m rows nd) (tyD m rows nd) := by
  unfold tyV tyD ownV
  split
  · exact opt_dp _
  · exact .non
/-- what the law is told: the error's value, or the type in a list -/
def toldD (m : Md) (rows : List Row) (nd : Nd) : PyData := match admD m rows nd [] with
  | .none => .list [tyD m rows nd]
  | d => d
def spToldT (K : PySem.W.Frag) : Sp := fun vs H Q _ => ∃ sch l p m rows nd, vs = [.ref sch, .ref l, .ref p] ∧ Right K H sch l p m rows nd ∧ ∀ v H', Ex H H' → Dp K H' v (toldD m rows nd) → Q v H'
theorem told_none {m : Md} {rows : List Row} {nd : Nd} (h : admD m rows nd [] = .none) : toldD m rows nd = .list [tyD m rows nd] := by
  unfold toldD
  rw [h]
theorem told_some {m : Md} {rows : List Row} {nd : Nd} (h : admD m rows nd [] ≠ .none) : toldD m rows nd = admD m rows nd [] := by
  rcases adm_cases m rows nd [] with ⟨h2, _⟩ | ⟨ds, h2⟩
  · exact absurd h2 h
  · unfold toldD
    rw [h2]
end Cf
namespace Cf
open PySem PySem.Spec PyProof.Rows L2 Evl
theorem el_lcU {K : PySem.W.Frag} {te : TE} {tl : TE} {σ : L2.St} {H : Hp} {j : Nat} {vs : List Nat} {xs : List V} (v : Nat → V) (h : EvU tl σ H xs) (hz : xs.length ≤ 40000) (hw : ∀ x, wipe ((wipe σ vs).set j (some x)) vs = wipe σ vs)
    (he : ∀ (i : Nat) (x : V) H1, Ex H H1 → xs[i]? = some x → Ev te ((wipe σ vs).set j (some x)) H1 (v i)) : EvL (tLc (iTup K tl) (gName j) tYes te vs) σ H (given xs.length (fun _ => true) v) := fun H0 e Q q => h H0 e _ fun a H1 n1 e1 h1 => ⟨a, rfl, ⟨xs, st_of h1⟩, fun Dl hD =>
  lc_it walk_tup (Cw H1 (fun _ => true) v Dl) ⟨hD, Ex.new hD, upd_same⟩ (fun i G _ p => ex_t p.2.1 (st_of h1)) (fun i x G G' hi p y => by
    obtain ⟨rfl, hc⟩ := y
    exact ⟨hw _, cw_turn p (by omega) (fun H3 e3 Q q => q H3 (Ex.refl H3)) (fun hf => he i x H1 (e.trans e1) hc)⟩) (fun G p => q Dl G (fresh_back e1 p.1) (e1.trans p.2.1) p.2.2)⟩
theorem prom_at {H : Hp} : ∀ {nd : Nd} {p : Addr}, TreeAt H p nd → nd.wf → inV (.str nd.word) [.str "neg", .str "shl", .str "shr"] = true → ∃ xs q e, H p = some (.tup xs) ∧ xs[1]? = some (.ref q) ∧ nd.parts = [e] ∧ TreeAt H q e ∧ e.isE = true ∧ nd.isE = true ∧ ∀ (m : Md) (vk : Str → Option Kd), nd.own m vk = (e.own m vk).map m.prom
  | .neg e, _, ⟨q, h, t⟩, w, _ => ⟨_, q, e, h, rfl, rfl, t, w.1, rfl, fun _ _ => rfl⟩
  | .sh _ e _, _, ⟨q, h, t⟩, w, _ => ⟨_, q, e, h, rfl, rfl, t, w.1, rfl, fun _ _ => rfl⟩
  | .var _, _, _, _, h => absurd h (by show ¬ (inV (.str "var") _ = true); decide)
  | .lit _ _, _, _, _, h => absurd h (by show ¬ (inV (.str "lit") _ = true); decide)
  | .cast _ _, _, _, _, h => absurd h (by show ¬ (inV (.str "cast") _ = true); decide)
  | .ite _ _ _, _, _, _, h => absurd h (by show ¬ (inV (.str "if") _ = true); decide)
  | .nt _, _, _, _, h => absurd h (by show ¬ (inV (.str "not") _ = true); decide)
  | .bin .add _ _, _, _, _, h => absurd h (by show ¬ (inV (.str "add") _ = true); decide)
  | .bin .sub _ _, _, _, _, h => absurd h (by show ¬ (inV (.str "sub") _ = true); decide)
  | .bin .mul _ _, _, _, _, h => absurd h (by show ¬ (inV (.str "mul") _ = true); decide)
  | .cmp true _ _, _, _, _, h => absurd h (by show ¬ (inV (.str "less") _ = true); decide)
  | .cmp false _ _, _, _, _, h => absurd h (by show ¬ (inV (.str "most") _ = true); decide)
  | .lg true _ _, _, _, _, h => absurd h (by show ¬ (inV (.str "and") _ = true); decide)
  | .lg false _ _, _, _, _, h => absurd h (by show ¬ (inV (.str "or") _ = true); decide)
theorem comb_at {H : Hp} : ∀ {nd : Nd} {p : Addr}, TreeAt H p nd → nd.wf → nd.word ≠ "var" → nd.word ≠ "lit" → nd.word ≠ "cast" → nd.isE = true → inV (.str nd.word) [.str "neg", .str "shl", .str "shr"] = false →
    ∃ xs q r e f, H p = some (.tup xs) ∧ cutV xs (some ((xs.length : Int) - 2)) none = [.ref q, .ref r] ∧ HT.sIx xs.length 0 (some ((xs.length : Int) - 2)) ≠ 0 ∧ TreeAt H q e ∧ TreeAt H r f ∧ e ∈ nd.parts ∧ f ∈ nd.parts ∧ e.isE = true ∧ f.isE = true ∧ ∀ (m : Md) (vk : Str → Option Kd), nd.own m vk = comb m (e.own m vk) (f.own m vk)
  | .bin _ e f, _, ⟨q, r, h, t, u⟩, w, _, _, _, _, _ => ⟨_, q, r, e, f, h, rfl, by show HT.sIx 3 0 (some (3 - 2)) ≠ 0; decide, t, u, List.mem_cons_self .., List.mem_cons_of_mem _ (List.mem_cons_self ..), w.1, w.2.1, fun _ _ => rfl⟩
  | .ite c e f, _, ⟨o, q, r, h, s, t, u⟩, w, _, _, _, _, _ => ⟨_, q, r, e, f, h, rfl, by show HT.sIx 4 0 (some (4 - 2)) ≠ 0; decide, t, u, List.mem_cons_of_mem _ (List.mem_cons_self ..), List.mem_cons_of_mem _ (List.mem_cons_of_mem _ (List.mem_cons_self ..)), w.2.1, w.2.2.1, fun _ _ => rfl⟩
  | .cmp _ _ _, _, _, _, _, _, _, h, _ => nomatch h
  | .nt _, _, _, _, _, _, _, h, _ => nomatch h
  | .lg _ _ _, _, _, _, _, _, _, h, _ => nomatch h
  | .var _, _, _, _, h, _, _, _, _ => absurd rfl h
  | .lit _ _, _, _, _, _, h, _, _, _ => absurd rfl h
  | .cast _ _, _, _, _, _, _, h, _, _ => absurd rfl h
  | .neg _, _, _, _, _, _, _, _, h => absurd h (by show ¬ (inV (.str "neg") _ = false); decide)
  | .sh true _ _, _, _, _, _, _, _, _, h => absurd h (by show ¬ (inV (.str "shl") _ = false); decide)
  | .sh false _ _, _, _, _, _, _, _, _, h => absurd h (by show ¬ (inV (.str "shr") _ = false); decide)
def preLab (K : PySem.W.Frag) (d : Nat) : List V → Hp → V → Prop := fun vs H v => ∃ sch nm q m rows nd, vs = [.ref sch, .ref nm, .ref q] ∧ AtM K H sch m ∧ m.Ok ∧ H nm = some (.dK (kindL rows)) ∧ TreeAt H q nd ∧ KdOk m rows nd ∧ nd.size ≤ d ∧ v = tyV m rows nd
theorem spLab {K : PySem.W.Frag} {H : Hp} {sch nm q : Addr} {m : Md} {rows : List Row} {nd : Nd} {d : Nat} (hm : AtM K H sch m) (ho : m.Ok) (hn : H nm = some (.dK (kindL rows))) (hT : TreeAt H q nd) (hk : KdOk m rows nd) (hd : nd.size ≤ d) : SpV (PV (preLab K d)) [.ref sch, .ref nm, .ref q] H (tyV m rows nd) :=
  PV.sp fun H1 e => ⟨sch, nm, q, m, rows, nd, rfl, hm.ex e, ho, e _ _ hn, hT.ex e, hk, hd, rfl⟩
theorem tyV_E {m : Md} {rows : List Row} {nd : Nd} {k : Kd} (h : nd.isE = true) (hk : nd.own m (vkOf rows) = some k) : tyV m rows nd = k.v := by
  unfold tyV ownV
  rw [if_pos h, hk]
  rfl
end Cf
namespace Cf
open PySem PySem.Spec PyProof.Rows L2 Evl
theorem varsL_nodup {es : List Nd} (h : (varsL es).Nodup) {e : Nd} (he : e ∈ es) : e.vars.Nodup := by
  obtain ⟨i, hi⟩ := List.getElem?_of_mem he
  rw [varsL_split hi] at h
  exact (List.nodup_append.mp (List.nodup_append.mp h).2.1).1
theorem part_nodup {nd e : Nd} (h : nd.vars.Nodup) (he : e ∈ nd.parts) : e.vars.Nodup := by
  have hv : ∀ x, nd ≠ .var x := fun x z => by subst z; exact nomatch he
  rw [vars_parts hv] at h
  exact varsL_nodup h he
theorem Right.part {K : PySem.W.Frag} {H : Hp} {sch l p q : Addr} {m : Md} {rows : List Row} {nd e : Nd} (h : Right K H sch l p m rows nd) (he : e ∈ nd.parts) (hT : TreeAt H q e) : Right K H sch l q m rows e :=
  ⟨h.hm, h.ho, h.hV, h.hz, h.hnm, h.hnd, h.hle, hT, (parts_wf h.hw e he).1, by have := (parts_wf h.hw e he).2; have := h.hs; omega, fun y hy => h.hv y (parts_vars he y hy), part_nodup h.hvn he⟩
theorem told_sm {m : Md} {rows : List Row} {nd : Nd} (h : ∀ w ∈ rows, smStr w.name = true) (hs : nd.size ≤ 30) : Sm (toldD m rows nd) ∧ szD (toldD m rows nd) ≤ 60 ∧ (toldD m rows nd).depth ≤ 4 := by
  rcases adm_cases m rows nd [] with ⟨ha, _⟩ | ⟨ds, ha⟩
  · rw [told_none ha]
    have : Sm (tyD m rows nd) ∧ szD (tyD m rows nd) ≤ 10 ∧ (tyD m rows nd).depth ≤ 1 := by
      unfold tyD
      split
      · cases nd.own m (vkOf rows) with
        | none => exact ⟨trivial, by simp [optD, szD], by simp [optD, PyData.depth]⟩
        | some k => exact ⟨sm_str (kd_sm k), by simp [optD, szD], by simp [optD, PyData.depth]⟩
      · exact ⟨trivial, by simp [szD], by simp [PyData.depth]⟩
    obtain ⟨h1, h2, h3⟩ := this
    refine ⟨⟨h1, trivial⟩, ?_, ?_⟩
    · simp only [szD, szAll]
      omega
    · simp only [PyData.depth, PyData.depthAll]
      omega
  · rw [told_some (by rw [ha]; exact fun z => nomatch z)]
    obtain ⟨h1, h2, h3⟩ := adm_sm (m := m) (nd := nd) h hs
    exact ⟨h1, by omega, by omega⟩
theorem told_ref {K : PySem.W.Frag} {H : Hp} {v : V} {m : Md} {rows : List Row} {nd : Nd} (h : Dp K H v (toldD m rows nd)) : ∃ a, v = .ref a := by
  rcases adm_cases m rows nd [] with ⟨ha, _⟩ | ⟨ds, ha⟩
  · rw [told_none ha] at h
    cases h
    exact ⟨_, rfl⟩
  · rw [told_some (by rw [ha]; exact fun z => nomatch z), ha] at h
    exact dp_tuple h
theorem ev_reprD {K : PySem.W.Frag} {σ : L2.St} {H : Hp} {ta : TE} {d : PyData} (ha : ∀ H1, Ex H H1 → ∀ Q : VK, (∀ a H2, Ex H1 H2 → Dp K H2 (.ref a) d → Q (.ref a) H2) → ta σ H1 Q) (hs : Sm d) (hz : szD d ≤ 800) (hp : d.depth ≤ 60) : Ev (tCB (rRepr K) (tCons ta tNil)) σ H (.str d.shown) := fun H1 e Q q =>
  ha H1 e _ fun a H2 e2 hd => ⟨a, d, rfl, hd, (sm_all d hs).1, (sm_all d hs).2.1, sm_len hs hz, hp, q H2 e2⟩
def preRight (K : PySem.W.Frag) (d : Nat) : List V → Hp → V → Prop := fun vs H v => ∃ sch l p m rows nd, vs = [.ref sch, .ref l, .ref p] ∧ Right K H sch l p m rows nd ∧ nd.size ≤ d ∧ (∀ w ∈ rows, smStr w.name = true) ∧ v = .bl true
theorem spRight {K : PySem.W.Frag} {H : Hp} {sch l p : Addr} {m : Md} {rows : List Row} {nd : Nd} {d : Nat} (R : Right K H sch l p m rows nd) (hd : nd.size ≤ d) (hsm : ∀ w ∈ rows, smStr w.name = true) : SpV (PV (preRight K d)) [.ref sch, .ref l, .ref p] H (.bl true) :=
  PV.sp fun H1 e => ⟨sch, l, p, m, rows, nd, rfl, R.ex e, hd, hsm, rfl⟩
theorem given_none (v : Nat → V) (n : Nat) : given n (fun _ => false) v = [] := by
  unfold given
  rw [List.filter_eq_nil_iff.mpr (fun _ _ => by decide)]
  rfl
end Cf
namespace Cf
open PySem PySem.Spec PyProof.Rows L2 Evl
mutual
theorem dp_buK {K : PySem.W.Frag} {u : Addr} {H H1 : Hp} {kvs : List (Key × V)} (hu : H u = some (.dK kvs)) (e : Bu u H H1) : ∀ (d : PyData) (v : V), TupD d → Dp K H v d → Dp K H1 v d
  | .none, _, _, h => by cases h; exact .non
  | .bool b, _, _, h => by cases h; exact .bl b
  | .int i, _, _, h => by cases h; exact .int i
  | .str x, _, _, h => by cases h; exact .str x
  | .list _, _, t, _ => t.elim
  | .tuple ds, _, t, h => by
    cases h with
    | tup a b => exact .tup (sqt_dk e hu a) (dps_buK hu e ds _ t b)
  | .dict _, _, t, _ => t.elim
theorem dps_buK {K : PySem.W.Frag} {u : Addr} {H H1 : Hp} {kvs : List (Key × V)} (hu : H u = some (.dK kvs)) (e : Bu u H H1) : ∀ (ds : List PyData) (vs : List V), TupDs ds → DpAll K H vs ds → DpAll K H1 vs ds
  | [], _, _, h => by cases h; exact .nil
  | d :: ds, _, t, h => by
    cases h with
    | cons a b => exact .cons (dp_buK hu e d _ t.1 a) (dps_buK hu e ds _ t.2 b)
end
end Cf
namespace Cf
open PySem PySem.Spec PyProof.Rows L2 Evl
theorem el_lcLf {K : PySem.W.Frag} {te : TE} {tl : TE} {tt : TT} {σ : L2.St} {H : Hp} {j : Nat} {vs : List Nat} {a : Addr} {xs : List V} (f : Nat → Bool) (v : Nat → V) (h : Ev tl σ H (.ref a)) (hx : SqL K H a xs) (hz : xs.length ≤ 40000) (hw : ∀ x, wipe ((wipe σ vs).set j (some x)) vs = wipe σ vs)
    (ht : ∀ (i : Nat) (x : V) H1, Ex H H1 → xs[i]? = some x → EvT tt ((wipe σ vs).set j (some x)) H1 (f i))
    (he : ∀ (i : Nat) (x : V) H1, Ex H H1 → xs[i]? = some x → f i = true → Ev te ((wipe σ vs).set j (some x)) H1 (v i)) : EvL (tLc (iList K tl) (gName j) tt te vs) σ H (given xs.length f v) := fun H0 e Q q => h H0 e _ fun H1 e1 => ⟨a, rfl, ⟨_, ex_l (e.trans e1) hx⟩, fun Dl hD =>
  lc_it walk_list (Cw H1 f v Dl) ⟨hD, Ex.new hD, upd_same⟩ (fun i G _ p => ex_l ((e.trans e1).trans p.2.1) hx) (fun i x G G' hi p y => by
    obtain ⟨rfl, hc⟩ := y
    exact ⟨hw _, cw_turn p (by omega) (ht i x H1 (e.trans e1) hc) (fun hf => he i x H1 (e.trans e1) hc hf)⟩) (fun G p => q Dl G (fresh_back e1 p.1) (e1.trans p.2.1) p.2.2)⟩
def row0 : Row := ⟨"", .ch, 0, 0⟩
theorem vars_pick {H : Hp} {ps : List Addr} {rows : List Row} {f : Nat → Bool} {l2 : Addr} (hlen : ps.length = rows.length) (c : ∀ (j : Nat) (w : Row), rows[j]? = some w → ∃ p, ps[j]? = some p ∧ H p = some (.tup w.vs)) (hl : H l2 = some (.lst (given rows.length f (fun i => V.ref (ps.getD i 0))))) :
    ∃ rows2, VarsAt H l2 rows2 ∧ List.Sublist (rows2.map Row.name) (rows.map Row.name) ∧ (∀ w ∈ rows2, w ∈ rows) ∧ rows2.length ≤ rows.length := by
  have hr : (List.range rows.length).map (fun i => rows.getD i row0) = rows := by
    apply List.ext_getElem?
    intro j
    rw [List.getElem?_map]
    by_cases hj : j < rows.length
    · rw [List.getElem?_range hj, Option.map_some, List.getD_eq_getElem?_getD, List.getElem?_eq_getElem hj]
      rfl
    · rw [List.getElem?_eq_none (by simpa using hj), List.getElem?_eq_none (by omega)]
      rfl
  have sub : List.Sublist (((List.range rows.length).filter f).map (fun i => rows.getD i row0)) rows := by
    have h := (List.filter_sublist (p := f) (l := List.range rows.length)).map (fun i => rows.getD i row0)
    rw [hr] at h
    exact h
  refine ⟨((List.range rows.length).filter f).map (fun i => rows.getD i row0), ⟨((List.range rows.length).filter f).map (fun i => ps.getD i 0), ?_, ?_, fun j w hj => ?_⟩, sub.map _, fun w hw => sub.subset hw, sub.length_le⟩
  · rw [hl]
    unfold given
    rw [List.map_map]
    rfl
  · rw [List.length_map, List.length_map]
  · rw [List.getElem?_map] at hj
    obtain ⟨i, hi, rfl⟩ := Option.map_eq_some_iff.mp hj
    have hm := List.mem_of_getElem? hi
    have hir : i < rows.length := List.mem_range.mp ((List.mem_filter.mp hm).1)
    have hri : rows[i]? = some rows[i] := List.getElem?_eq_getElem hir
    obtain ⟨p, p1, p2⟩ := c i rows[i] hri
    refine ⟨p, ?_, ?_⟩
    · rw [List.getElem?_map, hi, Option.map_some, List.getD_eq_getElem?_getD, p1]
      rfl
    · rw [List.getD_eq_getElem?_getD, hri]
      exact p2
end Cf

namespace Cf
open PySem PySem.Spec PyProof.Rows L2 Evl
def topS (i : Nat) : Stmt := PySem.Challenge.pw_castforms_k09_types_of_expressions.main.body.getD i (.Pass ⟨0, 0, 0, 0⟩)
abbrev s_check_widths : Stmt := topS 15
abbrev s_check_model : Stmt := topS 16
abbrev s_bits_of : Stmt := topS 17
abbrev s_is_unsigned : Stmt := topS 18
abbrev s_limits_of : Stmt := topS 19
abbrev s_is_held : Stmt := topS 20
abbrev s_promoted_kind : Stmt := topS 21
abbrev s_common_kind : Stmt := topS 22
abbrev s__common_of_mixed : Stmt := topS 23
abbrev s_check_variables : Stmt := topS 32
abbrev s_is_name : Stmt := topS 33
abbrev s_check_expression : Stmt := topS 34
abbrev s__check_node : Stmt := topS 35
abbrev s__has_form : Stmt := topS 36
abbrev s__has_items : Stmt := topS 37
abbrev s__fits : Stmt := topS 38
abbrev s_parts : Stmt := topS 39
abbrev s_all_nodes : Stmt := topS 40
abbrev s_literal_start : Stmt := topS 41
abbrev s_literal_kind : Stmt := topS 42
abbrev s_rows_of : Stmt := topS 43
abbrev s__add_rows : Stmt := topS 44
abbrev s_kinds_by_name : Stmt := topS 45
abbrev s_kinds_of : Stmt := topS 46
abbrev s_own_kind : Stmt := topS 47
abbrev s_refusal : Stmt := topS 48
abbrev s_check_admission : Stmt := topS 49
abbrev s_type_of : Stmt := topS 50
abbrev s__law_rng : Stmt := topS 52
abbrev s__law_draw : Stmt := topS 53
abbrev s__law_labels : Stmt := topS 54
abbrev s__law_rank : Stmt := topS 55
abbrev s__law_is_signed : Stmt := topS 56
abbrev s__law_holds : Stmt := topS 57
abbrev s__law_of : Stmt := topS 58
abbrev s__law_promoted : Stmt := topS 59
abbrev s__law_common : Stmt := topS 60
abbrev s__law_scheme : Stmt := topS 61
abbrev s__law_given : Stmt := topS 62
abbrev s__law_leaf : Stmt := topS 63
abbrev s__law_one : Stmt := topS 64
abbrev s__law_tree : Stmt := topS 65
abbrev s__law_test : Stmt := topS 66
abbrev s__law_whole : Stmt := topS 67
abbrev s__law_parts : Stmt := topS 68
abbrev s__law_literal : Stmt := topS 69
abbrev s__law_label_of : Stmt := topS 70
abbrev s__law_admission : Stmt := topS 71
abbrev s__law_told : Stmt := topS 72
abbrev s__law_right : Stmt := topS 73
abbrev s_law : Stmt := topS 74
abbrev i_NotAdmitted : Stmt := inClass (topS 5) 0
section
variable {P : Program} {w : World} {K : PySem.W.Frag} {mg : Str → Option Value} {base : Heap} {f : Addr} {fd : FuncData}
theorem sc_init_NotAdmitted : FnScope ["self", "value"] ["self", "value"] (defScope i_NotAdmitted) := ⟨rfl, rfl, rfl, by decide +kernel, rfl, by decide +kernel, by decide +kernel⟩
theorem ok_init_NotAdmitted (F : L2.Fun K "__init__" "NotAdmitted.__init__" i_NotAdmitted f fd) : FnOk P w K mg base CX0 1 f fd ["self", "value"] (spInit K) := by
  refine F.ok sc_init_NotAdmitted (fun vs H Q E h => by obtain ⟨a, v, C, rfl, _⟩ := h; rfl) (fun cdv A outer s H vs Q E hr h => ?_)
  obtain ⟨a, v, C, rfl, hO, hno, ha, hQ⟩ := h
  refine ⟨_, pss_one (ps_ost (pv 0) (pv 1)), ?_⟩
  exact ⟨_, rfl, _, rfl, a, C, rfl, hO, hno, .inl ⟨ha, fun dx n1 n2 => hQ dx n1 n2⟩⟩

theorem sc_bits_of : FnScope ["model", "kind"] ["model", "kind"] (defScope s_bits_of) := ⟨rfl, rfl, rfl, by decide +kernel, rfl, by decide +kernel, by decide +kernel⟩
theorem ok_bits_of (D : Df K mg "bits_of" s_bits_of ["model", "kind"] f fd) (cR : CR5 K w mg) :
    FnG P w K mg base CX0 1 f fd ["model", "kind"] (PV (preMK K fun m k => .int (m.b k))) := by
  refine df_ok D sc_bits_of (pre_len1 fun vs H v h => by obtain ⟨p, m, k, rfl, _⟩ := h; rfl) (fun cdv A outer s H vs Q E hG hr h => ?_)
  obtain ⟨v, ⟨p, m, k, rfl, hm, ho, rfl⟩, hQ⟩ := h
  obtain ⟨aR, gR, tR⟩ := cR
  obtain ⟨q, h1, h2⟩ := hm
  refine ⟨_, pss_one (ps_ret (pe_ix ix_tup (pe_ix ix_tup (pv 0) pe_int (fun _ _ => rfl)) (pe_ix ix_kdict (pe_glob (v := .ref aR) rfl gR rfl) (pv 1) (fun _ _ => rfl)) (fun _ _ => rfl))), ?_⟩
  refine s_ret (ev_op (ev_op (ev_var rfl) ev_c (rv_ixT h1 (atI_nat (j := 0) rfl))) (ev_op ev_c (ev_var rfl) (z := .int k.rk) ?_) (rv_ixT h2 (atI_nat (j := k.rk) (Md.at_ k.rk_lt)))) hQ
  exact fun H1 _ Q1 q1 => ⟨aR, k.s, _, rfl, rfl, tR k, q1 H1 (Ex.refl H1)⟩

theorem sc_is_unsigned : FnScope ["model", "kind"] ["model", "kind"] (defScope s_is_unsigned) := ⟨rfl, rfl, rfl, by decide +kernel, rfl, by decide +kernel, by decide +kernel⟩
theorem ok_is_unsigned (D : Df K mg "is_unsigned" s_is_unsigned ["model", "kind"] f fd) (cU : CT K mg "UNSIGNED" vUNSIGNED) :
    FnG P w K mg base CX0 1 f fd ["model", "kind"] (PV (preMK K fun m k => .bl (m.un k))) := by
  refine df_ok D sc_is_unsigned (pre_len1 fun vs H v h => by obtain ⟨p, m, k, rfl, _⟩ := h; rfl) (fun cdv A outer s H vs Q E hG hr h => ?_)
  obtain ⟨v, ⟨p, m, k, rfl, hm, ho, rfl⟩, hQ⟩ := h
  obtain ⟨q, h1, h2⟩ := hm
  refine ⟨_, pss_cons (ps_if (pt_cmpR op_eq (pv 1) pe_str (nomark _)) (pss_one (ps_ret (pe_cmpR op_eq (pe_ix ix_tup (pv 0) pe_int (fun _ _ => rfl)) pe_str (nomark _)))) pss_nil)
    (pss_one (ps_ret (pe_cmpR op_in_seq (pv 1) (pe_ct rfl cU) (by rfl)))), ?_⟩
  refine q_when (b := decide (k = .ch)) (et_is (et_test (ev_op (ev_var rfl) ev_c (rv_eq rfl))) ?_) (fun hb H1 e1 => ?_) (fun hb H1 e1 => ?_)
  · cases k <;> decide +kernel
  · have hk : k = .ch := of_decide_eq_true hb
    subst hk
    refine s_ret (ev_is (ev_op (ev_op (ev_var rfl) ev_c (rv_ixT (ex_t e1 h1) (atI_nat (j := 1) rfl))) ev_c (rv_eq rfl)) ?_) fun H2 e2 => hQ H2 (e1.trans e2)
    show V.bl (decide (V.str (plS m.u) = V.str "u")) = V.bl m.u
    cases m.u <;> decide +kernel
  · refine s_ret (ev_ct (ev_var rfl) (z := .bl (m.un k)) fun a H2 e2 t => ?_) fun H2 e2 => hQ H2 (e1.trans e2)
    have hz : V.bl (inV k.v vUNSIGNED) = V.bl (m.un k) := by
      cases k <;> first | rfl | (exact absurd hb (by decide))
    rw [← hz]
    exact rv_isT t rfl rfl

theorem sc_limits_of : FnScope ["model", "kind", "bits"] ["model", "kind"] (defScope s_limits_of) := ⟨rfl, rfl, rfl, by decide +kernel, rfl, by decide +kernel, by decide +kernel⟩
theorem ok_limits_of (D : Df K mg "limits_of" s_limits_of ["model", "kind"] f fd) (cb : Cl P w K mg base 1 "bits_of" ["model", "kind"] (PV (preMK K fun m k => .int (m.b k))))
    (cu : Cl P w K mg base 1 "is_unsigned" ["model", "kind"] (PV (preMK K fun m k => .bl (m.un k)))) :
    FnG P w K mg base CX0 2 f fd ["model", "kind"] (PU (preMU K fun m k => [.int (m.low k), .int (m.high k)])) := by
  refine df_ok D sc_limits_of (pre_lenU fun vs H v h => by obtain ⟨p, m, k, rfl, _⟩ := h; rfl) (fun cdv A outer s H vs Q E hG hr h => ?_)
  obtain ⟨v, ⟨p, m, k, rfl, hm, ho, rfl⟩, hQ⟩ := h
  obtain ⟨b0, b1⟩ := ho.b k
  refine ⟨_, pss_cons (ps_set (i := 2) sc_limits_of.nd rfl (.inl rfl) (pe_cl cb hG hr rfl (pa_cons (pv 0) (pa_cons (pv 1) pa_nil))))
    (pss_cons (ps_if (pt_val (pe_cl cu hG hr rfl (pa_cons (pv 0) (pa_cons (pv 1) pa_nil))))
        (pss_one (ps_ret (pe_tup (pa_cons pe_int (pa_cons (pe_op op_sub (pe_op op_shl pe_int (pv 2)) pe_int) pa_nil))))) pss_nil)
    (pss_one (ps_ret (pe_tup (pa_cons (pe_un un_neg (pe_op op_shl pe_int (pe_op op_sub (pv 2) pe_int))) (pa_cons (pe_op op_sub (pe_op op_shl pe_int (pe_op op_sub (pv 2) pe_int)) pe_int) pa_nil)))))), ?_⟩
  refine q_asg (ev_call (ea_cons (ev_var rfl) (ea_cons (ev_var rfl) ea_nil)) (spMK hm ho)) fun H1 e1 => ?_
  have hm1 := hm.ex e1
  have e2b : ∀ {H}, Ev (tOp (rI0 fun i j => .int (i - j)) (tVar 2) (tC (.int 1))) [some (.ref p), some k.v, some (.int (m.b k))] H (.int ((m.b k - 1 : Nat) : Int)) := fun {H} =>
    ev_is (ev_op (ev_var rfl) ev_c rv_I0) (by congr 1; omega)
  refine q_when (et_B (ev_call (ea_cons (ev_var rfl) (ea_cons (ev_var rfl) ea_nil)) (spMK hm1 ho))) (fun hb H2 e2 => ?_) (fun hb H2 e2 => ?_)
  · refine s_retU (xs := [.int (m.low k), .int (m.high k)]) ?_ fun t H3 n3 e3 h3 => hQ t H3 (fresh_back (e1.trans e2) n3) ((e1.trans e2).trans e3) h3
    refine eu_tup (ea_cons (ev_is ev_c ?_) (ea_cons (ev_is (ev_op (shl1 b1 ev_c (ev_var rfl)) ev_c rv_I0) ?_) ea_nil)) (by show 2 ≤ 100000; decide)
    · unfold Md.low
      rw [if_pos hb]
    · unfold Md.high
      rw [if_pos hb]
  · refine s_retU (xs := [.int (m.low k), .int (m.high k)]) ?_ fun t H3 n3 e3 h3 => hQ t H3 (fresh_back (e1.trans e2) n3) ((e1.trans e2).trans e3) h3
    have hs := shl1 (b := m.b k - 1) (σ := [some (.ref p), some k.v, some (.int (m.b k))]) (H := H2) (by omega) (ta := tC (.int 1)) ev_c e2b
    refine eu_tup (ea_cons (ev_is (ev_un hs ru_neg) ?_) (ea_cons (ev_is (ev_op hs ev_c rv_I0) ?_) ea_nil)) (by show 2 ≤ 100000; decide)
    · unfold Md.low
      rw [if_neg (by rw [hb]; decide)]
    · unfold Md.high
      rw [if_neg (by rw [hb]; decide)]

theorem sc_is_held : FnScope ["model", "kind", "number", "least", "greatest"] ["model", "kind", "number"] (defScope s_is_held) := ⟨rfl, rfl, rfl, by decide +kernel, rfl, by decide +kernel, by decide +kernel⟩
theorem ok_is_held (D : Df K mg "is_held" s_is_held ["model", "kind", "number"] f fd) (cl : Cl P w K mg base 2 "limits_of" ["model", "kind"] (PU (preMU K fun m k => [.int (m.low k), .int (m.high k)]))) :
    FnG P w K mg base CX0 3 f fd ["model", "kind", "number"] (PV (preMKI K fun m k i => .bl (decide (m.low k ≤ i ∧ i ≤ m.high k)))) := by
  refine df_ok D sc_is_held (pre_len1 fun vs H v h => by obtain ⟨p, m, k, i, rfl, _⟩ := h; rfl) (fun cdv A outer s H vs Q E hG hr h => ?_)
  obtain ⟨v, ⟨p, m, k, i, rfl, hm, ho, rfl⟩, hQ⟩ := h
  refine ⟨_, pss_cons (ps_asg (pe_cl cl hG hr rfl (pa_cons (pv 0) (pa_cons (pv 1) pa_nil)))
      (pg_tup rfl (pgs_cons (pg_name (i := 3) sc_is_held.nd rfl (.inl rfl)) (pgs_cons (pg_name (i := 4) sc_is_held.nd rfl (.inl rfl)) pgs_nil))))
    (pss_one (ps_ret (pe_chain op_le op_le (pv 3) (pv 2) (pv 4)))), ?_⟩
  refine eu_call (ea_cons (ev_var rfl) (ea_cons (ev_var rfl) ea_nil)) (spMU hm ho) H (Ex.refl H) _ fun t H1 n1 e1 h1 => ?_
  refine ⟨t, _, rfl, st_of h1, rfl, _, _, rfl, _, _, rfl, rfl, ?_⟩
  refine ⟨_, rfl, _, rfl, _, _, rfl, rfl, _, rfl, ?_⟩
  by_cases c1 : m.low k ≤ i
  · rw [decide_eq_true c1]
    refine ⟨_, rfl, _, _, rfl, rfl, ?_⟩
    have hz : decide (m.low k ≤ i ∧ i ≤ m.high k) = decide (i ≤ m.high k) := by
      by_cases c2 : i ≤ m.high k
      · rw [decide_eq_true c2, decide_eq_true ⟨c1, c2⟩]
      · rw [decide_eq_false c2, decide_eq_false fun z => c2 z.2]
    dsimp only at hQ
    rw [hz] at hQ
    exact hQ H1 e1
  · rw [decide_eq_false c1]
    dsimp only at hQ
    rw [decide_eq_false fun z => c1 z.1] at hQ
    exact iteF (hQ H1 e1)

theorem sc_check_widths : FnScope ["widths", "least", "at", "bits"] ["widths"] (defScope s_check_widths) := ⟨rfl, rfl, rfl, by decide +kernel, rfl, by decide +kernel, by decide +kernel⟩
theorem ok_check_widths (D : Df K mg "check_widths" s_check_widths ["widths"] f fd) (cS : CT K mg "SIGNED" vSIGNED) (cl : CI mg "LEAST_WIDTH" 2) (cg : CI mg "GREATEST_WIDTH" 128) (cn : mg "len" = none) (ce : mg "enumerate" = none) :
    FnG P w K mg base CX0 1 f fd ["widths"] (PV (preW K)) := by
  refine df_ok D sc_check_widths (pre_len1 fun vs H v h => by obtain ⟨p, m, rfl, _⟩ := h; rfl) (fun cdv A outer s H vs Q E hG hr h => ?_)
  obtain ⟨v, ⟨p, m, rfl, hm, ho, rfl⟩, hQ⟩ := h
  refine ⟨_, pss_cons (ps_if (pt_cmpR op_ne (pe_callB call_len_seq (by rfl) cn PySem.boot_len (pa_cons (pv 0) pa_nil)) (pe_callB call_len_seq (by rfl) cn PySem.boot_len (pa_cons (pe_ct rfl cS) pa_nil)) (nomark _)) (pss_one ps_never) pss_nil)
    (pss_cons (ps_set (i := 1) sc_check_widths.nd rfl (.inl rfl) (pe_ci rfl cl))
    (pss_one (ps_for PassesOwn.never rfl (pi_enumT rfl ce (pa_cons (pv 0) pa_nil))
      (pg_tup rfl (pgs_cons (pg_name (i := 2) sc_check_widths.nd rfl (.inl rfl)) (pgs_cons (pg_name (i := 3) sc_check_widths.nd rfl (.inl rfl)) pgs_nil)))
      (pss_cons (ps_if (PW.pt (pw_or (pt_cmpR op_lt (pv 3) (pv 1) (nomark _)) (pw_or1 (pt_cmpR op_gt (pv 3) (pe_ci rfl cg) (nomark _))))) (pss_one ps_never) pss_nil)
      (pss_one (ps_set (i := 1) sc_check_widths.nd rfl (.inl rfl) (pv 3))))))), ?_⟩
  -- five widths
  refine ⟨_, rfl, p, m.ws, rfl, .inr hm, fun aS hS => ⟨aS, vSIGNED, rfl, .inr hS, rfl, _, rfl, ?_⟩⟩
  refine iteF ?_
  show tSeq _ _ _ _ _
  refine q_asg ev_c fun H1 e1 => ?_
  have hm1 := ex_t e1 hm
  refine ⟨_, rfl, p, m.ws, rfl, hm1, for_enumT (xs := m.ws) (fun i σ H3 => Ex H1 H3 ∧ ∃ l y2 y3, σ = [some (.ref p), some (.int l), y2, y3] ∧ ∀ x, m.ns[i]? = some x → l ≤ x ∧ x ≤ 128) ?_ ?_ ?_ ?_ ?_⟩
  · refine ⟨Ex.refl H1, 2, none, none, rfl, fun x hx => ?_⟩
    have : m.ns[0]? = some (m.w0 : Int) := rfl
    rw [this] at hx
    cases hx
    obtain ⟨h0, h1, h2, h3, h4, h5⟩ := ho
    omega
  · exact fun i σ H3 _ hp => ex_t hp.1 hm1
  · exact fun i σ H3 T x hp nT => ⟨hp.1.trans (Ex.new nT), hp.2⟩
  · intro i x T σ H3 hx hp hT
    obtain ⟨e3, l, y2, y3, rfl, hl⟩ := hp
    obtain ⟨z, hz, rfl⟩ : ∃ z, m.ns[i]? = some z ∧ x = .int z := by
      rw [List.getElem?_map] at hx
      obtain ⟨z, a, b⟩ := Option.map_eq_some_iff.mp hx
      exact ⟨z, a, b.symm⟩
    obtain ⟨c1, c2⟩ := hl z hz
    refine ⟨T, _, rfl, st_of hT, rfl, _, _, rfl, _, _, rfl, rfl, ?_⟩
    refine q_when (b := false) (et_is (et_or (et_test (ev_op (ev_var rfl) (ev_var rfl) rv_I0)) fun _ => et_test (ev_op (ev_var rfl) ev_c rv_I0)) ?_) (fun hb => nomatch hb) (fun _ H4 e4 => ?_)
    · rw [decide_eq_false (by omega), decide_eq_false (by omega)]
      rfl
    · refine s_asg (ev_var rfl) fun H5 e5 => ⟨(e3.trans e4).trans e5, z, some (.int i), some (.int z), rfl, fun y hy => ?_⟩
      obtain ⟨h0, h1, h2, h3, h4, h5⟩ := ho
      match i, hz, hy with
      | 0, hz, hy =>
        have a1 : (m.w0 : Int) = z := Option.some.inj hz
        have a2 : (m.w1 : Int) = y := Option.some.inj hy
        omega
      | 1, hz, hy =>
        have a1 : (m.w1 : Int) = z := Option.some.inj hz
        have a2 : (m.w2 : Int) = y := Option.some.inj hy
        omega
      | 2, hz, hy =>
        have a1 : (m.w2 : Int) = z := Option.some.inj hz
        have a2 : (m.w3 : Int) = y := Option.some.inj hy
        omega
      | 3, hz, hy =>
        have a1 : (m.w3 : Int) = z := Option.some.inj hz
        have a2 : (m.w4 : Int) = y := Option.some.inj hy
        omega
      | n + 4, hz, hy =>
        have a2 : (none : Option Int) = some y := hy
        cases a2
  · exact fun σ H3 hp => hQ H3 (e1.trans hp.1)



theorem sc_check_model : FnScope ["model", "widths", "plain"] ["model"] (defScope s_check_model) := ⟨rfl, rfl, rfl, by decide +kernel, rfl, by decide +kernel, by decide +kernel⟩
theorem ok_check_model (D : Df K mg "check_model" s_check_model ["model"] f fd) (cw : Cl P w K mg base 1 "check_widths" ["widths"] (PV (preW K))) (cP : CT K mg "PLAIN_SIGNS" vPLAIN) :
    FnG P w K mg base CX0 2 f fd ["model"] (PV (preM K)) := by
  refine df_ok D sc_check_model (pre_len1 fun vs H v h => by obtain ⟨p, m, rfl, _⟩ := h; rfl) (fun cdv A outer s H vs Q E hG hr h => ?_)
  obtain ⟨v, ⟨p, m, rfl, hm, ho, rfl⟩, hQ⟩ := h
  obtain ⟨q, h1, h2⟩ := hm
  refine ⟨_, pss_cons (ps_asg (pv 0) (pg_tup rfl (pgs_cons (pg_name (i := 1) sc_check_model.nd rfl (.inl rfl)) (pgs_cons (pg_name (i := 2) sc_check_model.nd rfl (.inl rfl)) pgs_nil))))
    (pss_cons (ps_expr (pe_cl cw hG hr rfl (pa_cons (pv 1) pa_nil)))
    (pss_one (ps_if (pt_cmpR op_notIn_seq (pv 2) (pe_ct rfl cP) (by rfl)) (pss_one ps_never) pss_nil))), ?_⟩
  refine ⟨_, rfl, p, _, rfl, h1, rfl, _, _, rfl, _, _, rfl, rfl, ?_⟩
  refine q_drop (ev_call (ea_cons (ev_var rfl) ea_nil) (spW h2 ho)) fun H1 e1 => ?_
  refine s_when (b := false) (et_test (ev_ct (ev_var rfl) (z := .bl false) fun a H2 e2 t => ?_)) (fun hb => nomatch hb) (fun _ H2 e2 => hQ H2 (e1.trans e2))
  have hz : V.bl (!inV (.str (plS m.u)) vPLAIN) = V.bl false := by cases m.u <;> rfl
  rw [← hz]
  exact rv_niT t rfl rfl

theorem sc_promoted_kind : FnScope ["model", "kind"] ["model", "kind"] (defScope s_promoted_kind) := ⟨rfl, rfl, rfl, by decide +kernel, rfl, by decide +kernel, by decide +kernel⟩
theorem ok_promoted_kind (D : Df K mg "promoted_kind" s_promoted_kind ["model", "kind"] f fd) (cR : CR5 K w mg) (cI : CI mg "INT_RANK" 2) (cu : Cl P w K mg base 1 "is_unsigned" ["model", "kind"] (PV (preMK K fun m k => .bl (m.un k))))
    (cb : Cl P w K mg base 1 "bits_of" ["model", "kind"] (PV (preMK K fun m k => .int (m.b k)))) : FnG P w K mg base CX0 2 f fd ["model", "kind"] (PV (preMK K fun m k => (m.prom k).v)) := by
  refine df_ok D sc_promoted_kind (pre_len1 fun vs H v h => by obtain ⟨p, m, k, rfl, _⟩ := h; rfl) (fun cdv A outer s H vs Q E hG hr h => ?_)
  obtain ⟨v, ⟨p, m, k, rfl, hm, ho, rfl⟩, hQ⟩ := h
  obtain ⟨aR, gR, tR⟩ := cR
  refine ⟨_, pss_cons (ps_if (pt_cmpR op_ge (pe_ix ix_kdict (pe_glob (v := .ref aR) rfl gR rfl) (pv 1) (fun _ _ => rfl)) (pe_ci rfl cI) (nomark _)) (pss_one (ps_ret (pv 1))) pss_nil)
    (pss_cons (ps_if (PW.pt (pw_and (pt_val (pe_cl cu hG hr rfl (pa_cons (pv 0) (pa_cons (pv 1) pa_nil)))) (pw_and1 (pt_cmpR op_ge (pe_cl cb hG hr rfl (pa_cons (pv 0) (pa_cons (pv 1) pa_nil))) (pe_cl cb hG hr rfl (pa_cons (pv 0) (pa_cons pe_str pa_nil))) (nomark _)))))
        (pss_one (ps_ret pe_str)) pss_nil)
    (pss_one (ps_ret pe_str))), ?_⟩
  refine q_when (et_test (ev_op (ev_rk tR (ev_var rfl)) ev_c rv_I0)) (fun hb H1 e1 => ?_) (fun hb H1 e1 => ?_)
  · have h2 : (2 : Int) ≤ (k.rk : Nat) := of_decide_eq_true hb
    have e : m.prom k = k := by
      unfold Md.prom
      rw [if_pos (by omega)]
    dsimp only at hQ
    rw [e] at hQ
    exact s_ret (ev_var rfl) fun H2 e2 => hQ H2 (e1.trans e2)
  · have h2 : ¬ (2 : Int) ≤ (k.rk : Nat) := of_decide_eq_false hb
    have e : m.prom k = if m.un k = true ∧ m.b .it ≤ m.b k then .ui else .it := by
      unfold Md.prom
      rw [if_neg (by omega)]
    have hm1 := hm.ex e1
    refine q_when (b := decide (m.un k = true ∧ m.b .it ≤ m.b k)) (et_is (et_and (et_B (ev_mk hm1 ho rfl rfl)) fun _ => et_test (ev_op (ev_mk hm1 ho rfl rfl) (ev_call (ea_cons (ev_var rfl) (ea_cons ev_c ea_nil)) (spMK (k := .it) hm1 ho)) rv_I0)) ?_) (fun hb2 H2 e2 => ?_) (fun hb2 H2 e2 => ?_)
    · cases m.un k
      · simp
      · simp
    · dsimp only at hQ
      rw [e, if_pos (of_decide_eq_true hb2)] at hQ
      exact s_ret ev_c fun H3 e3 => hQ H3 ((e1.trans e2).trans e3)
    · dsimp only at hQ
      rw [e, if_neg (of_decide_eq_false hb2)] at hQ
      exact s_ret ev_c fun H3 e3 => hQ H3 ((e1.trans e2).trans e3)

theorem sc__common_of_mixed : FnScope ["model", "unsigned", "signed"] ["model", "unsigned", "signed"] (defScope s__common_of_mixed) := ⟨rfl, rfl, rfl, by decide +kernel, rfl, by decide +kernel, by decide +kernel⟩
theorem ok__common_of_mixed (D : Df K mg "_common_of_mixed" s__common_of_mixed ["model", "unsigned", "signed"] f fd) (cR : CR5 K w mg) (cU : CT K mg "UNSIGNED" vUNSIGNED)
    (cb : Cl P w K mg base 1 "bits_of" ["model", "kind"] (PV (preMK K fun m k => .int (m.b k)))) : FnG P w K mg base CX0 2 f fd ["model", "unsigned", "signed"] (PV (preMKK K fun m a b => (m.mix a b).v)) := by
  refine df_ok D sc__common_of_mixed (pre_len1 fun vs H v h => by obtain ⟨p, m, k, l, rfl, _⟩ := h; rfl) (fun cdv A outer s H vs Q E hG hr h => ?_)
  obtain ⟨v, ⟨p, m, a, b, rfl, hm, ho, rfl⟩, hQ⟩ := h
  obtain ⟨aR, gR, tR⟩ := cR
  refine ⟨_, pss_cons (ps_if (pt_cmpR op_ge (pe_ix ix_kdict (pe_glob (v := .ref aR) rfl gR rfl) (pv 1) (fun _ _ => rfl)) (pe_ix ix_kdict (pe_glob (v := .ref aR) rfl gR rfl) (pv 2) (fun _ _ => rfl)) (nomark _)) (pss_one (ps_ret (pv 1))) pss_nil)
    (pss_cons (ps_if (pt_cmpR op_lt (pe_cl cb hG hr rfl (pa_cons (pv 0) (pa_cons (pv 1) pa_nil))) (pe_cl cb hG hr rfl (pa_cons (pv 0) (pa_cons (pv 2) pa_nil))) (nomark _)) (pss_one (ps_ret (pv 2))) pss_nil)
    (pss_one (ps_ret (pe_ix ix_tup (pe_ct rfl cU) (pe_ix ix_kdict (pe_glob (v := .ref aR) rfl gR rfl) (pv 2) (fun _ _ => rfl)) (fun _ _ => rfl))))), ?_⟩
  dsimp only at hQ
  refine q_when (et_test (ev_op (ev_rk tR (ev_var rfl)) (ev_rk tR (ev_var rfl)) rv_I0)) (fun hb H1 e1 => ?_) (fun hb H1 e1 => ?_)
  · have h2 : ((b.rk : Nat) : Int) ≤ (a.rk : Nat) := of_decide_eq_true hb
    have e : m.mix a b = a := by
      unfold Md.mix
      rw [if_pos (by omega)]
    rw [e] at hQ
    exact s_ret (ev_var rfl) fun H2 e2 => hQ H2 (e1.trans e2)
  · have h2 : ¬ ((b.rk : Nat) : Int) ≤ (a.rk : Nat) := of_decide_eq_false hb
    have e : m.mix a b = if m.b a < m.b b then b else uKd b.rk := by
      unfold Md.mix
      rw [if_neg (by omega)]
    have hm1 := hm.ex e1
    refine q_when (et_test (ev_op (ev_mk hm1 ho rfl rfl) (ev_mk hm1 ho rfl rfl) rv_I0)) (fun hb2 H2 e2 => ?_) (fun hb2 H2 e2 => ?_)
    · have h3 : ((m.b a : Nat) : Int) < (m.b b : Nat) := of_decide_eq_true hb2
      rw [e, if_pos (by omega)] at hQ
      exact s_ret (ev_var rfl) fun H3 e3 => hQ H3 ((e1.trans e2).trans e3)
    · have h3 : ¬ ((m.b a : Nat) : Int) < (m.b b : Nat) := of_decide_eq_false hb2
      rw [e, if_neg (by omega)] at hQ
      refine s_ret (v := (uKd b.rk).v) (fun H3 e3 Q1 q1 aU hU => ?_) fun H3 e3 => hQ H3 ((e1.trans e2).trans e3)
      exact (ev_rk tR (ev_var rfl)) H3 (Ex.refl H3) _ fun H4 e4 => ⟨aU, _, _, _, rfl, rfl, ex_t e4 hU, atI_nat (j := b.rk) (by cases b <;> rfl), q1 H4 e4⟩

theorem sc_common_kind : FnScope ["model", "first", "second", "one", "other"] ["model", "first", "second"] (defScope s_common_kind) := ⟨rfl, rfl, rfl, by decide +kernel, rfl, by decide +kernel, by decide +kernel⟩
theorem ok_common_kind (D : Df K mg "common_kind" s_common_kind ["model", "first", "second"] f fd) (cR : CR5 K w mg) (cp : Cl P w K mg base 2 "promoted_kind" ["model", "kind"] (PV (preMK K fun m k => (m.prom k).v)))
    (cu : Cl P w K mg base 1 "is_unsigned" ["model", "kind"] (PV (preMK K fun m k => .bl (m.un k)))) (cx : Cl P w K mg base 2 "_common_of_mixed" ["model", "unsigned", "signed"] (PV (preMKK K fun m a b => (m.mix a b).v))) :
    FnG P w K mg base CX0 3 f fd ["model", "first", "second"] (PV (preMKK K fun m k l => (m.com k l).v)) := by
  refine df_ok D sc_common_kind (pre_len1 fun vs H v h => by obtain ⟨p, m, k, l, rfl, _⟩ := h; rfl) (fun cdv A outer s H vs Q E hG hr h => ?_)
  obtain ⟨v, ⟨p, m, k, l, rfl, hm, ho, rfl⟩, hQ⟩ := h
  obtain ⟨aR, gR, tR⟩ := cR
  have nd := sc_common_kind.nd
  refine ⟨_, pss_cons (ps_par (i := 3) (j := 4) rfl nd rfl rfl (by decide) rfl rfl (pa_cons (pe_cl cp hG hr rfl (pa_cons (pv 0) (pa_cons (pv 1) pa_nil))) (pa_cons (pe_cl cp hG hr rfl (pa_cons (pv 0) (pa_cons (pv 2) pa_nil))) pa_nil)) (by rfl))
    (pss_cons (ps_if (pt_cmpR op_eq (pe_cl cu hG hr rfl (pa_cons (pv 0) (pa_cons (pv 3) pa_nil))) (pe_cl cu hG hr rfl (pa_cons (pv 0) (pa_cons (pv 4) pa_nil))) (nomark _))
        (pss_one (ps_ret (pe_ifExp (pt_cmpR op_ge (pe_ix ix_kdict (pe_glob (v := .ref aR) rfl gR rfl) (pv 3) (fun _ _ => rfl)) (pe_ix ix_kdict (pe_glob (v := .ref aR) rfl gR rfl) (pv 4) (fun _ _ => rfl)) (nomark _)) (pv 3) (pv 4)))) pss_nil)
    (pss_cons (ps_if (pt_val (pe_cl cu hG hr rfl (pa_cons (pv 0) (pa_cons (pv 3) pa_nil)))) (pss_one (ps_ret (pe_cl cx hG hr rfl (pa_cons (pv 0) (pa_cons (pv 3) (pa_cons (pv 4) pa_nil)))))) pss_nil)
    (pss_one (ps_ret (pe_cl cx hG hr rfl (pa_cons (pv 0) (pa_cons (pv 4) (pa_cons (pv 3) pa_nil)))))))), ?_⟩
  dsimp only at hQ
  refine q_par (ev_mk hm ho rfl rfl) (ev_mk hm ho rfl rfl) fun H1 e1 => ?_
  have hm1 := hm.ex e1
  unfold Md.com at hQ
  generalize m.prom k = a at hQ ⊢
  generalize m.prom l = b at hQ ⊢
  refine q_when (b := decide (m.un a = m.un b)) (et_is (et_test (ev_op (ev_mk hm1 ho rfl rfl) (ev_mk hm1 ho rfl rfl) (rv_eq rfl))) ?_) (fun hb H2 e2 => ?_) (fun hb H2 e2 => ?_)
  · cases m.un a <;> cases m.un b <;> decide
  · have e : m.com2 a b = if b.rk ≤ a.rk then a else b := by
      unfold Md.com2
      rw [if_pos (of_decide_eq_true hb)]
    rw [e] at hQ
    refine s_ret (ev_if (et_test (ev_op (ev_rk tR (ev_var rfl)) (ev_rk tR (ev_var rfl)) rv_I0)) (fun hc => ev_is (ev_var rfl) ?_) (fun hc => ev_is (ev_var rfl) ?_)) fun H3 e3 => hQ H3 ((e1.trans e2).trans e3)
    · have h3 : ((b.rk : Nat) : Int) ≤ (a.rk : Nat) := of_decide_eq_true hc
      rw [if_pos (by omega)]
    · have h3 : ¬ ((b.rk : Nat) : Int) ≤ (a.rk : Nat) := of_decide_eq_false hc
      rw [if_neg (by omega)]
  · have e : m.com2 a b = if m.un a = true then m.mix a b else m.mix b a := by
      unfold Md.com2
      rw [if_neg (of_decide_eq_false hb)]
    rw [e] at hQ
    have hm2 := hm1.ex e2
    refine q_when (et_B (ev_mk hm2 ho rfl rfl)) (fun hc H3 e3 => ?_) (fun hc H3 e3 => ?_)
    · rw [if_pos hc] at hQ
      exact s_ret (ev_call (ea_cons (ev_var rfl) (ea_cons (ev_var rfl) (ea_cons (ev_var rfl) ea_nil))) (spMKK (hm2.ex e3) ho)) fun H4 e4 => hQ H4 (((e1.trans e2).trans e3).trans e4)
    · rw [if_neg (by rw [hc]; decide)] at hQ
      exact s_ret (ev_call (ea_cons (ev_var rfl) (ea_cons (ev_var rfl) (ea_cons (ev_var rfl) ea_nil))) (spMKK (hm2.ex e3) ho)) fun H4 e4 => hQ H4 (((e1.trans e2).trans e3).trans e4)

theorem sc_is_name : FnScope ["text", "sign"] ["text"] (defScope s_is_name) := ⟨rfl, rfl, rfl, by decide +kernel, rfl, by decide +kernel, by decide +kernel⟩
theorem ok_is_name (D : Df K mg "is_name" s_is_name ["text"] f fd) (cK : CT K mg "KINDS" vKINDS) (cR : CT K mg "RESERVED" vRESERVED) (cI : CI mg "LONGEST_NAME" 8) (cL : CS mg "LETTERS" sLETTERS) (cle : mg "len" = none) (cal : mg "all" = none) : FnG P w K mg base CX0 1 f fd ["text"] (PV preName) := by
  refine df_ok D sc_is_name (pre_len1 fun vs H v h => by obtain ⟨x, rfl, _⟩ := h; rfl) (fun cdv A outer s H vs Q E hG hr h => ?_)
  obtain ⟨v, ⟨x, rfl, hx, rfl⟩, hQ⟩ := h
  have nd := sc_is_name.nd
  refine ⟨_, (pss_cons (ps_if (PW.pt (pw_or (pt_cmpR op_in_seq (pv 0) (pe_ct rfl cK) (by rfl)) (pw_or (pt_cmpR op_in_seq (pv 0) (pe_ct rfl cR) (by rfl)) (pw_or1 (pt_not (pt_chain op_le op_le pe_int (pe_callB call_len_str (by rfl) cle (by decide +kernel) (pa_cons (pv 0) pa_nil)) (pe_ci rfl cI))))))) (pss_one (ps_ret pe_bl)) pss_nil) (pss_one (ps_ret (pe_callB (cr_all rfl) (by rfl) cal (by decide +kernel) (pa_cons (pe_lc (own := [("sign", 1)]) (g := gName 1) (tt := tYes) rfl nd (pi_str (pv 0)) (blkOk_by (N := ["text", "sign"]) (sc := defScope s_is_name) (by decide +kernel)) (fun _ _ _ _ _ => pg_name (i := 1) nd rfl (Or.inl rfl)) (fun _ _ _ _ _ => pts_nil) (fun _ _ _ _ _ => pe_cmpR op_in_sign (pv 1) (pe_cs rfl cL) (by rfl))) pa_nil))))), ?_⟩
  unfold nameOk at hx
  rw [Bool.and_eq_true, Bool.and_eq_true, Bool.and_eq_true, Bool.not_eq_true', Bool.not_eq_true'] at hx
  obtain ⟨⟨⟨h1, h2⟩, h3⟩, h4⟩ := hx
  have hl := of_decide_eq_true h3
  refine q_when (b := false) (et_or (a := false) (b := false) (et_is (et_test (ev_ct (ev_var rfl) fun a H2 e2 t => rv_isT t rfl rfl)) h1) (fun _ => et_is (et_or (a := false) (b := false) (et_is (et_test (ev_ct (ev_var rfl) fun a H2 e2 t => rv_isT t rfl rfl)) h2) (fun _ => et_is (et_not (et_test (ev_chLe ev_c (ev_lenS (ev_var rfl) (by omega)) ev_c))) (by rw [h3]; rfl))) rfl)) (fun z => nomatch z) (fun _ H1 e1 => ?_)
  refine s_ret (ev_is (ev_allN (bs := List.replicate x.cps.size true) (fun G e Q q => (el_lcS (z := x) (fun _ => .bl true) (ev_var rfl) ?_ (fun y => rfl) (fun i c G2 e2 hc => ev_is (ev_op (ev_var rfl) ev_c rv_sign) ?_)) G e Q fun p G2 np e2 h2 => q p G2 np e2 ?_)) ?_) fun H2 e2 => hQ H2 (e1.trans e2)
  · have : x.cps.size = x.length := rfl
    omega
  · have hm : c ∈ x.cps.toList := by
      have := Array.mem_of_getElem? hc
      exact Array.mem_toList_iff.mpr this
    have := List.all_eq_true.mp h4 c hm
    rw [this]
  · rw [h2]
    congr 2
    rw [List.map_replicate]
    have hg : ∀ n : Nat, given n (fun _ => true) (fun _ => V.bl true) = List.replicate n (.bl true) := fun n => by
      unfold given
      rw [List.filter_eq_self.mpr (fun _ _ => rfl)]
      induction n with
      | zero => rfl
      | succ n ih => rw [List.range_succ, List.map_append, ih]; exact (List.replicate_succ' ..).symm
    exact hg _
  · congr 1
    rw [List.all_replicate]
    split <;> rfl

theorem sc_check_variables : FnScope ["variables", "seen", "at", "name", "kind", "low", "high"] ["variables"] (defScope s_check_variables) := ⟨rfl, rfl, rfl, by decide +kernel, rfl, by decide +kernel, by decide +kernel⟩
theorem ok_check_variables (D : Df K mg "check_variables" s_check_variables ["variables"] f fd) (cn : Cl P w K mg base 1 "is_name" ["text"] (PV preName)) (cK : CT K mg "KINDS" vKINDS) (cen : mg "enumerate" = none) : FnG P w K mg base CX0 2 f fd ["variables"] spCV := by
  refine df_ok D sc_check_variables (fun vs H Q E h => by obtain ⟨l, rows, rfl, _⟩ := h; rfl) (fun cdv A outer s H vs Q E hG hr h => ?_)
  obtain ⟨l, rows, rfl, hV, hz, hnm, hnd, hle, hQ⟩ := h
  have ndp := sc_check_variables.nd
  have hu := hu_of hr
  refine ⟨_, (pss_cons (ps_set (i := 1) ndp rfl (.inl rfl) pe_dnewK) (pss_one (ps_for PassesOwn.never rfl (pi_enum (by rfl) cen (pa_cons (pv 0) pa_nil)) (pg_tup rfl (pgs_cons (pg_name (i := 2) ndp rfl (.inl rfl)) (pgs_cons (pg_tup rfl (pgs_cons (pg_name (i := 3) ndp rfl (.inl rfl)) (pgs_cons (pg_name (i := 4) ndp rfl (.inl rfl)) (pgs_cons (pg_name (i := 5) ndp rfl (.inl rfl)) (pgs_cons (pg_name (i := 6) ndp rfl (.inl rfl)) pgs_nil))))) pgs_nil)))
        (pss_cons (ps_if (PW.pt (pw_or (pt_not (pt_val (pe_cl cn hG hr rfl (pa_cons (pv 3) pa_nil)))) (pw_or (pt_cmp (pc_din hu (pv 3) (pv 1)) rfl) (pw_or (pt_cmpR op_notIn_seq (pv 4) (pe_ct rfl cK) (by rfl)) (pw_or1 (pt_cmpR op_gt (pv 5) (pv 6) (nomark _))))))) (pss_one ps_never) pss_nil) (pss_one (ps_dput hu (pv 1) (pv 3) pe_bl rfl)))))), ?_⟩
  obtain ⟨ps, hl, hlen, hrow⟩ := id hV
  have hpl : (ps.map V.ref).length = rows.length := by rw [List.length_map, hlen]
  refine q_raw fun d nd0 => ?_
  have e1 : Ex H (upd H d (.dK [])) := Ex.new nd0
  have hd1 : (upd H d (.dK [])) d = some (.dK (seenL [])) := upd_same
  generalize upd H d (.dK []) = H1 at e1 hd1 ⊢
  dsimp only [List.set]
  refine (ev_var (v := .ref l) rfl) H1 (Ex.refl H1) _ fun H2 e2 => ⟨l, ps.map V.ref, rfl, sq_of (e2 _ _ (e1 _ _ hl)), ?_⟩
  have e02 := e1.trans e2
  have ndl : d ≠ l := fun z => by rw [z, hl] at nd0; exact nomatch nd0
  have exH : ∀ {G : Hp}, Bu d H2 G → Ex H G := fun bu b o q => bu b o (fun z => by rw [z, nd0] at q; exact nomatch q) (e02 _ _ q)
  refine for_it (n := (ps.map V.ref).length) walk_enum (fun i σ G => Bu d H2 G ∧ G d = some (.dK (seenL ((rows.map Row.name).take i))) ∧ ∃ y2 y3 y4 y5 y6, σ = [some (.ref l), some (.ref d), y2, y3, y4, y5, y6]) ⟨Bu.refl d H2, e2 _ _ hd1, none, none, none, none, none, rfl⟩ (fun i σ G _ h => sq_of (h.1 _ _ (Ne.symm ndl) (e2 _ _ (e1 _ _ hl)))) ?_ ?_
  · intro i x σ G G' hi hp hy
    obtain ⟨bu, hD, y2, y3, y4, y5, y6, rfl⟩ := hp
    obtain ⟨T, x5, x6, rfl, hTn, rfl, h5, h6⟩ := hy
    cases h5
    have h6 : (ps.map V.ref)[i]? = some x6 := h6
    rw [List.getElem?_map] at h6
    obtain ⟨q, hq, rfl⟩ := Option.map_eq_some_iff.mp h6
    have hir : i < rows.length := by rw [← hpl]; exact hi
    have hri : rows[i]? = some rows[i] := List.getElem?_eq_getElem hir
    obtain ⟨p2, q1, q2⟩ := hrow i rows[i] hri
    rw [hq] at q1
    cases q1
    have hmem := List.mem_of_getElem? hri
    have hnew : rows[i].name ∉ (rows.map Row.name).take i := fun hm => by
      have h1 : (rows.map Row.name)[i]? = some rows[i].name := by rw [List.getElem?_map, hri]; rfl
      obtain ⟨j, hj1, hj2⟩ := List.getElem_of_mem hm
      rw [List.length_take] at hj1
      rw [List.getElem_take] at hj2
      have := (List.getElem_inj (i := j) (j := i) (h₀ := by omega) (h₁ := by rw [List.length_map]; exact hir) hnd).mp (by rw [hj2, List.getElem_map])
      omega
    have htk : (rows.map Row.name).take (i + 1) = (rows.map Row.name).take i ++ [rows[i].name] := by
      rw [List.take_add_one, List.getElem?_map, hri]
      rfl
    rw [htk, ← seen_put hnew]
    have k1 := hnm _ hmem
    have k2 := hle _ hmem
    generalize rows[i] = wr at q2 k1 k2 hnew ⊢
    have eT : Ex G (upd G T (.tup [.int (i : Nat), .ref q])) := Ex.new hTn
    have hT2 : (upd G T (.tup [.int (i : Nat), .ref q])) T = some (.tup [.int (i : Nat), .ref q]) := upd_same
    generalize upd G T (.tup [.int (i : Nat), .ref q]) = G5 at eT hT2 ⊢
    have hq5 := eT _ _ (exH bu _ _ q2)
    refine ⟨T, _, rfl, st_of hT2, rfl, _, _, rfl, _, _, rfl, q, _, rfl, st_of hq5, rfl, _, _, rfl, _, _, rfl, _, _, rfl, _, _, rfl, rfl, rfl, ?_⟩
    dsimp only [List.set]
    have hD5 := eT _ _ hD
    refine q_when (b := false) (et_or (a := false) (b := false) (et_is (et_not (et_B (ev_call (ea_cons (ev_var rfl) ea_nil) (spName k1)))) rfl) (fun _ => et_is (et_or (a := false) (b := false) (et_is (et_B (ev_dinK (ev_var rfl) (ev_var rfl) hD5)) (decide_eq_false hnew)) (fun _ => et_is (et_or (a := false) (b := false) (et_is (et_test (ev_ct (ev_var rfl) fun a G e t => rv_niT t rfl rfl)) (by cases wr.kind <;> rfl)) (fun _ => et_is (et_test (ev_op (ev_var rfl) (ev_var rfl) rv_I0)) (decide_eq_false (by omega)))) rfl)) rfl)) (fun z => nomatch z) (fun _ G6 e6 => ?_)
    have hl6 : (seenL ((rows.map Row.name).take i)).length < 100000 := by
      unfold seenL
      rw [List.length_map, List.length_take]
      omega
    refine ev_c G6 (Ex.refl G6) _ fun G7 e7 => (ev_var rfl) G7 (Ex.refl G7) _ fun G8 e8 => (ev_var rfl) G8 (Ex.refl G8) _ fun G9 e9 => ⟨d, _, rfl, DPut.k (k := .inr wr.name) ((e6.trans e7).trans (e8.trans e9) _ _ hD5) (sz_lt hl6), fun b o nb z => ?_, upd_same, _, _, _, _, _, rfl⟩
    rw [upd_ne nb]
    exact (e6.trans e7).trans (e8.trans e9) _ _ (eT _ _ (bu b o nb z))
  · intro σ G hp
    obtain ⟨bu, hD, y2, y3, y4, y5, y6, rfl⟩ := hp
    exact hQ G (exH bu)

theorem sc__fits : FnScope ["form", "item", "unused"] ["form", "item", "unused"] (defScope s__fits) := ⟨rfl, rfl, rfl, by decide +kernel, rfl, by decide +kernel, by decide +kernel⟩
theorem ok__fits (D : Df K mg "_fits" s__fits ["form", "item", "unused"] f fd) (cS : CT K mg "SUFFIXES" vSUFFIXES) (cK : CT K mg "KINDS" vKINDS) (cis : mg "isinstance" = none) (cin : mg "int" = none) : FnG P w K mg base CX0 1 f fd ["form", "item", "unused"] spFits := by
  refine df_ok D sc__fits (fun vs H Q E h => by obtain ⟨fo, x, d, ns, rfl, _⟩ := h; rfl) (fun cdv A outer s H vs Q E hG hr h => ?_)
  obtain ⟨fo, x, d, ns, rfl, hF, hd, hQ⟩ := h
  have hu := hu_of hr
  refine ⟨_, (pss_cons (ps_if (pt_cmpR op_eq (pv 0) pe_str (nomark _)) (pss_one (ps_ret (pe_cmp (pc_din hu (pv 1) (pv 2)) rfl))) pss_nil) (pss_cons (ps_if (pt_cmpR op_eq (pv 0) pe_str (nomark _)) (pss_one (ps_ret (pe_and (pe_callB RZ.call_isTy (by rfl) cis (by decide +kernel) (pa_cons (pv 1) (pa_cons (pe_bltn (v := .ty "int") (by rfl) cin (by decide +kernel) rfl) pa_nil))) (pe_one (pe_cmpR op_ge (pv 1) pe_int (nomark _)))))) pss_nil) (pss_cons (ps_if (pt_cmpR op_eq (pv 0) pe_str (nomark _)) (pss_one (ps_ret (pe_cmpR op_in_seq (pv 1) (pe_ct rfl cS) (by rfl)))) pss_nil) (pss_cons (ps_if (pt_cmpR op_eq (pv 0) pe_str (nomark _)) (pss_one (ps_ret (pe_cmpR op_in_seq (pv 1) (pe_ct rfl cK) (by rfl)))) pss_nil) (pss_one (ps_ret pe_bl)))))), ?_⟩
  have is : ∀ {G : Hp} {c : Str}, EvT (tTest (tOp rEq (tVar 0) (tC (.str c)))) [some (.str fo), some x, some (.ref d)] G (decide (V.str fo = .str c)) := et_test (ev_op (ev_var rfl) ev_c (rv_eq rfl))
  rcases hF with ⟨rfl, sx, rfl, hin⟩ | ⟨rfl, n, rfl, hn⟩ | ⟨rfl, sx, rfl, hin⟩ | ⟨rfl, kd, rfl⟩ | hlast
  · refine q_when (et_is is (decide_eq_true rfl)) (fun _ H1 e1 => ?_) (fun z => nomatch z)
    exact s_ret (ev_is (ev_dinK (ev_var rfl) (ev_var rfl) (e1 _ _ hd)) (by rw [decide_eq_true hin])) fun H2 e2 => hQ H2 (e1.trans e2)
  · refine q_when (b := false) (et_is is (by decide)) (fun z => nomatch z) (fun _ H1 e1 => ?_)
    refine q_when (et_is is (decide_eq_true rfl)) (fun _ H2 e2 => ?_) (fun z => nomatch z)
    exact s_ret (ev_is (ev_andV (a := true) (ev_cb (ea_cons (ev_var rfl) (ea_cons ev_c ea_nil)) fun G e Q q => ⟨_, _, rfl, .int n, q G (Ex.refl G)⟩) (fun _ => ev_op (ev_var rfl) ev_c rv_I0)) (by rw [decide_eq_true hn]; rfl)) fun H3 e3 => hQ H3 ((e1.trans e2).trans e3)
  · refine q_when (b := false) (et_is is (by decide)) (fun z => nomatch z) (fun _ H1 e1 => ?_)
    refine q_when (b := false) (et_is is (by decide)) (fun z => nomatch z) (fun _ H2 e2 => ?_)
    refine q_when (et_is is (decide_eq_true rfl)) (fun _ H3 e3 => ?_) (fun z => nomatch z)
    have hi : inV (.str sx) vSUFFIXES = true := by
      simp only [sufs, List.mem_cons, List.not_mem_nil, or_false] at hin
      rcases hin with rfl | rfl | rfl | rfl | rfl | rfl <;> decide +kernel
    exact s_ret (ev_is (ev_ct (ev_var rfl) fun a G e t => rv_isT t rfl rfl) (by rw [hi])) fun H4 e4 => hQ H4 ((e1.trans e2).trans (e3.trans e4))
  · refine q_when (b := false) (et_is is (by decide)) (fun z => nomatch z) (fun _ H1 e1 => ?_)
    refine q_when (b := false) (et_is is (by decide)) (fun z => nomatch z) (fun _ H2 e2 => ?_)
    refine q_when (b := false) (et_is is (by decide)) (fun z => nomatch z) (fun _ H3 e3 => ?_)
    refine q_when (et_is is (decide_eq_true rfl)) (fun _ H4 e4 => ?_) (fun z => nomatch z)
    have hi : inV kd.v vKINDS = true := by cases kd <;> rfl
    exact s_ret (ev_is (ev_ct (ev_var rfl) fun a G e t => rv_isT t rfl rfl) (by rw [hi])) fun H5 e5 => hQ H5 ((e1.trans e2).trans (e3.trans (e4.trans e5)))
  · have no : ∀ c : Str, c = "name" ∨ c = "number" ∨ c = "suffix" ∨ c = "kind" → decide (V.str fo = .str c) = false := fun c hc => by
      rcases hlast with rfl | rfl <;> rcases hc with rfl | rfl | rfl | rfl <;> decide
    refine q_when (b := false) (et_is is (no _ (.inl rfl))) (fun z => nomatch z) (fun _ H1 e1 => ?_)
    refine q_when (b := false) (et_is is (no _ (.inr (.inl rfl)))) (fun z => nomatch z) (fun _ H2 e2 => ?_)
    refine q_when (b := false) (et_is is (no _ (.inr (.inr (.inl rfl))))) (fun z => nomatch z) (fun _ H3 e3 => ?_)
    refine q_when (b := false) (et_is is (no _ (.inr (.inr (.inr rfl))))) (fun z => nomatch z) (fun _ H4 e4 => ?_)
    exact s_ret ev_c fun H5 e5 => hQ H5 ((e1.trans e2).trans (e3.trans (e4.trans e5)))

theorem sc__has_items : FnScope ["node", "unused", "form", "item"] ["node", "unused"] (defScope s__has_items) := ⟨rfl, rfl, rfl, by decide +kernel, rfl, by decide +kernel, by decide +kernel⟩
theorem ok__has_items (D : Df K mg "_has_items" s__has_items ["node", "unused"] f fd) (cIt : CIt K w mg) (cf : Cl P w K mg base 1 "_fits" ["form", "item", "unused"] spFits) (czi : mg "zip" = none) (cal : mg "all" = none) : FnG P w K mg base CX0 2 f fd ["node", "unused"] spItems := by
  refine df_ok D sc__has_items (fun vs H Q E h => by obtain ⟨p, nd, d, ns, rfl, _⟩ := h; rfl) (fun cdv A outer s H vs Q E hG hr h => ?_)
  obtain ⟨p, nd, d, ns, rfl, hT, hw, hv, hd, hQ⟩ := h
  have ndp := sc__has_items.nd
  obtain ⟨aI, es, nn, gI, kI, fI⟩ := cIt
  obtain ⟨tf, nsf, hf⟩ := fI nd
  have kd : KDct K w aI nd.word (.ref tf) := ⟨es, nn, _, kI.at_, kI.lit, nsf, rfl⟩
  refine ⟨_, (pss_one (ps_ret (pe_callB (cr_all rfl) (by rfl) cal (by decide +kernel) (pa_cons (pe_lc (own := [("form", 2), ("item", 3)]) (g := gTup K 2 (gCons (gName 2) (gCons (gName 3) gNil))) (tt := tYes) rfl ndp (RZ.pi_zipA rfl czi (pa_cons (pe_ix ix_kdict (pe_glob (v := .ref aI) rfl gI rfl) (pe_ix ix_tup (pv 0) pe_int (fun _ _ => rfl)) (fun _ _ => rfl)) (pa_cons (pe_slice sl_tup (pv 0) (po_some pe_int) po_none) pa_nil))) (blkOk_by (N := ["node", "unused", "form", "item"]) (sc := defScope s__has_items) (by decide +kernel))
      (fun _ _ _ _ _ => pg_tup rfl (pgs_cons (pg_name (i := 2) ndp rfl (Or.inl rfl)) (pgs_cons (pg_name (i := 3) ndp rfl (Or.inl rfl)) pgs_nil))) (fun _ _ _ _ _ => pts_nil) (fun _ _ _ _ _ => pe_cl cf hG hr rfl (pa_cons (pv 2) (pa_cons (pv 3) (pa_cons (pv 1) pa_nil))))) pa_nil)))), ?_⟩
  obtain ⟨rest, hp, hR⟩ := hT.rest
  have hlen := rest_len hR
  obtain ⟨fl1, fl3⟩ := forms_len nd
  refine ret_raw (?_ : tCB _ _ _ _ _)
  refine (?_ : tCons _ _ _ _ _)
  refine (?_ : tLc _ _ _ _ _ _ _ _)
  refine (ev_op (ev_c (v := .ref aI)) (ev_op (ev_var rfl) ev_c (rv_ixT (st_of hp) (atI_nat (j := 0) rfl))) fun G e Q q => ⟨aI, nd.word, .ref tf, rfl, rfl, kd, q G (Ex.refl G)⟩) H (Ex.refl H) _ fun H1 e1 => ?_
  refine (?_ : tSl _ _ _ _ _ _ _)
  refine ⟨_, rfl, 1, rfl, p, _, rfl, st_of (e1 _ _ hp), fun z => ?_, fun t nt => ?_⟩
  · have := z.1
    simp only [HT.sIx, List.length_cons] at this
    rw [if_neg (by decide)] at this
    simp at this
  have e2 : Ex H1 (upd H1 t (.tup (cutV (.str nd.word :: rest) (some 1) none))) := Ex.new nt
  have ht : (upd H1 t (.tup (cutV (.str nd.word :: rest) (some 1) none))) t = some (.tup rest) := by
    rw [upd_same]
    congr 2
    have : cutV (.str nd.word :: rest) (some 1) none = ((V.str nd.word :: rest).take (V.str nd.word :: rest).length).drop 1 := by
      simp [cutV, HT.sIx]
    rw [this, List.take_length]
    rfl
  generalize upd H1 t (.tup (cutV (.str nd.word :: rest) (some 1) none)) = H2 at e2 ht ⊢
  have e02 := e1.trans e2
  refine ⟨tf, t, _, _, rfl, .inr ⟨hf H2, st_of ht, fun Dl nD => ?_⟩⟩
  have nDt : Dl ≠ t := fun z => by rw [z, ht] at nD; exact nomatch nD
  have nm : (nd.forms.map V.str).length = nd.forms.length := List.length_map ..
  have exH : ∀ {G : Hp}, Bu Dl H2 G → Ex H G := fun bu b o q => bu b o (fun z => by have := e02 _ _ q; rw [z, nD] at this; exact nomatch this) (e02 _ _ q)
  refine lc_it (n := nd.forms.length) (walk_zipT (xs := nd.forms.map V.str) (ys := rest) (by rw [nm, hlen, Nat.min_self])) (fun i G => Bu Dl H2 G ∧ G Dl = some (.lst ((List.replicate i true).map V.bl))) ⟨fun b o nb q => by rw [upd_ne nb]; exact q, by rw [upd_same]; rfl⟩ (fun i G _ h => ⟨hf G, st_of (h.1 _ _ (Ne.symm nDt) ht)⟩) ?_ ?_
  · intro i x G G' hi hp2 hy
    obtain ⟨bu, hD⟩ := hp2
    obtain ⟨T, x1, x2, rfl, hTn, rfl, h1, h2⟩ := hy
    have h1 : (nd.forms.map V.str)[i]? = some x1 := h1
    have h2 : rest[i]? = some x2 := h2
    rw [List.getElem?_map] at h1
    obtain ⟨fo, hfo, rfl⟩ := Option.map_eq_some_iff.mp h1
    have fit := rest_fits (ns := ns) hR hw hv i fo x2 hfo h2
    have nDT : Dl ≠ T := fun z => by rw [← z, hD] at hTn; exact nomatch hTn
    have eT : Ex G (upd G T (.tup [.str fo, x2])) := Ex.new hTn
    have hT2 : (upd G T (.tup [.str fo, x2])) T = some (.tup [.str fo, x2]) := upd_same
    generalize upd G T (.tup [.str fo, x2]) = G5 at eT hT2 ⊢
    refine ⟨T, _, rfl, st_of hT2, rfl, _, _, rfl, _, _, rfl, rfl, ?_⟩
    refine ⟨rfl, ?_⟩
    dsimp only [tYes]
    rw [if_pos rfl]
    have bu5 : Bu Dl H2 G5 := bu.trans (Bu.of eT)
    refine (ea_cons (ev_var rfl) (ea_cons (ev_var rfl) (ea_cons (ev_var rfl) ea_nil))) G5 (Ex.refl G5) _ fun G6 e6 => ⟨fo, x2, d, ns, rfl, fit, (exH bu5).trans e6 _ _ hd, fun G7 e7 => ⟨_, e7 _ _ (e6 _ _ (eT _ _ hD)), ?_, fun b o nb q => by rw [upd_ne nb]; exact e7 _ _ (e6 _ _ (bu5 b o nb q)), ?_⟩⟩
    · rw [List.length_map, List.length_replicate]
      exact sz_lt (by omega)
    · rw [upd_same, List.replicate_succ', List.map_append]
      rfl
  · intro G hp2
    obtain ⟨bu, hD⟩ := hp2
    refine ⟨Dl, List.replicate nd.forms.length true, rfl, sq_of hD, ?_⟩
    have : (List.replicate nd.forms.length true).all id = true := by
      rw [List.all_replicate]
      split <;> rfl
    rw [this]
    exact hQ G (exH bu)

theorem sc__has_form : FnScope ["node", "needed", "form"] ["node", "needed"] (defScope s__has_form) := ⟨rfl, rfl, rfl, by decide +kernel, rfl, by decide +kernel, by decide +kernel⟩
theorem ok__has_form (D : Df K mg "_has_form" s__has_form ["node", "needed"] f fd) (cIt : CIt K w mg) (cC : CT K mg "CONDITIONS" vCONDITIONS) (cis : mg "isinstance" = none) (ctu : mg "tuple" = none) (cle : mg "len" = none) : FnG P w K mg base CX0 1 f fd ["node", "needed"] (PV (preForm K)) := by
  refine df_ok D sc__has_form (pre_len1 fun vs H v h => by obtain ⟨p, nd, x, rfl, _⟩ := h; rfl) (fun cdv A outer s H vs Q E hG hr h => ?_)
  obtain ⟨v, ⟨p, nd, x, rfl, hT, hx, rfl⟩, hQ⟩ := h
  have ndp := sc__has_form.nd
  obtain ⟨aI, es, nn, gI, kI, fI⟩ := cIt
  obtain ⟨tf, nsf, hf⟩ := fI nd
  have kd : KDct K w aI nd.word (.ref tf) := ⟨es, nn, _, kI.at_, kI.lit, nsf, rfl⟩
  refine ⟨_, (pss_cons (ps_if (PW.pt (pw_or (pt_not (pt_val (pe_callB RZ.call_isTy (by rfl) cis (by decide +kernel) (pa_cons (pv 0) (pa_cons (pe_bltn (v := .ty "tuple") (by rfl) ctu (by decide +kernel) rfl) pa_nil))))) (pw_or (pt_not (pt_truth (pv 0) (by intro _; rfl))) (pw_or1 (pt_cmpR (op_notIn_kd kI) (pe_ix ix_tup (pv 0) pe_int (fun _ _ => rfl)) (pe_glob (v := .ref aI) rfl gI rfl) (by rfl)))))) (pss_one (ps_ret pe_bl)) pss_nil) (pss_cons (ps_set (i := 2) ndp rfl (.inl rfl) (pe_ifExp (pt_cmpR op_in_seq (pe_ix ix_tup (pv 0) pe_int (fun _ _ => rfl)) (pe_ct rfl cC) (by rfl)) pe_str pe_str)) (pss_one (ps_ret (pe_and (pe_cmpR op_in_seq (pv 1) (pe_tup (pa_cons pe_non (pa_cons (pv 2) pa_nil))) (by rfl)) (pe_one (pe_cmpR op_eq (pe_callB call_len_seq (by rfl) cle (by decide +kernel) (pa_cons (pv 0) pa_nil)) (pe_op op_add (pe_callB call_len_seq (by rfl) cle (by decide +kernel) (pa_cons (pe_ix ix_kdict (pe_glob (v := .ref aI) rfl gI rfl) (pe_ix ix_tup (pv 0) pe_int (fun _ _ => rfl)) (fun _ _ => rfl)) pa_nil)) pe_int) (nomark _)))))))), ?_⟩
  obtain ⟨rest, hp, hR⟩ := hT.rest
  have hlen := rest_len hR
  obtain ⟨fl1, fl3⟩ := forms_len nd
  have w0 : ∀ {G : Hp} {y2 : Option V}, Ex H G → Ev (tOp (rIxT K) (tVar 0) (tC (.int 0))) [some (.ref p), some x, y2] G (.str nd.word) := fun e => ev_op (ev_var rfl) ev_c (rv_ixT (st_of (e _ _ hp)) (atI_nat (j := 0) rfl))
  refine q_when (b := false) (et_or (a := false) (b := false) (et_is (et_not (et_B (ev_cb (ea_cons (ev_var rfl) (ea_cons ev_c ea_nil)) fun G e Q q => ⟨_, _, rfl, .tup (e _ _ hp), q G (Ex.refl G)⟩))) rfl) (fun _ => et_is (et_or (a := false) (b := false) (et_is (et_not (a := true) (fun G e Q q => ⟨_, rfl, true, ?_, q G (Ex.refl G)⟩)) rfl) (fun _ => et_test (ev_op (w0 (Ex.refl H)) ev_c fun G e Q q => ⟨nd.word, some _, rfl, rfl, nsf, q G (Ex.refl G)⟩))) rfl)) (fun z => nomatch z) (fun _ H1 e1 => ?_)
  · exact .inr (.inl ⟨_, st_of (e _ _ hp), rfl⟩)
  refine q_asg (v := .str (formOf nd)) (ev_if (b := !nd.isE) (et_is (et_test (ev_ct (w0 e1) fun a G e t => rv_isT t rfl rfl)) (cond_in nd)) (fun hb => ev_is ev_c (by unfold formOf; rw [if_neg (by cases h : nd.isE with | true => rw [h] at hb; exact nomatch hb | false => decide)])) (fun hb => ev_is ev_c (by unfold formOf; rw [if_pos (by cases h : nd.isE with | true => rfl | false => rw [h] at hb; exact nomatch hb)]))) fun H2 e2 => ?_
  have e12 := e1.trans e2
  have hin : inV x [.non, .str (formOf nd)] = true := by
    rcases hx with rfl | rfl
    · rfl
    · unfold formOf
      cases nd.isE <;> rfl
  have hfl : flatV x = true := by rcases hx with rfl | rfl <;> rfl
  refine s_ret (ev_is (ev_andV (a := true) (b := true) (ev_is (ev_inU (xs := [.non, .str (formOf nd)]) (ev_var rfl) (eu_tup (ea_cons ev_c (ea_cons (ev_var rfl) ea_nil)) (by simp)) hfl rfl) (by rw [hin])) (fun _ => ev_is (ev_op (ev_cb (z := .int ((V.str nd.word :: rest).length : Nat)) (ea_cons (ev_var rfl) ea_nil) fun G e Q q => ⟨p, _, rfl, .inr (st_of (e _ _ (e12 _ _ hp))), q G (Ex.refl G)⟩) (ev_op (ev_cb (z := .int ((nd.forms.map V.str).length : Nat)) (ea_cons (ev_op (ev_c (v := .ref aI)) (w0 e12) fun G e Q q => ⟨aI, nd.word, .ref tf, rfl, rfl, kd, q G (Ex.refl G)⟩) ea_nil) fun G e Q q => ⟨tf, _, rfl, .inr (hf G), q G (Ex.refl G)⟩) ev_c rv_I0) (rv_eq rfl)) ?_)) rfl) fun H3 e3 => hQ H3 (e12.trans e3)
  rw [List.length_cons, List.length_map, hlen]
  congr 1
  exact decide_eq_true (by congr 1)

theorem sc_parts : FnScope ["node", "form", "item"] ["node"] (defScope s_parts) := ⟨rfl, rfl, rfl, by decide +kernel, rfl, by decide +kernel, by decide +kernel⟩
theorem ok_parts (D : Df K mg "parts" s_parts ["node"] f fd) (cIt : CIt K w mg) (cP : CT K mg "PART_FORMS" vPARTS) (czi : mg "zip" = none) : FnG P w K mg base CX0 1 f fd ["node"] spParts := by
  refine df_ok D sc_parts (fun vs H Q E h => by obtain ⟨p, nd, rfl, _⟩ := h; rfl) (fun cdv A outer s H vs Q E hG hr h => ?_)
  obtain ⟨p, nd, rfl, hT, hQ⟩ := h
  have ndp := sc_parts.nd
  obtain ⟨aI, es, nn, gI, kI, fI⟩ := cIt
  obtain ⟨aP, gP, tP⟩ := cP
  obtain ⟨tf, nsf, hf⟩ := fI nd
  have kd : KDct K w aI nd.word (.ref tf) := ⟨es, nn, _, kI.at_, kI.lit, nsf, rfl⟩
  refine ⟨_, (pss_one (ps_ret (pe_lc (own := [("form", 1), ("item", 2)]) (g := gTup K 2 (gCons (gName 1) (gCons (gName 2) gNil))) rfl ndp (RZ.pi_zipA rfl czi (pa_cons (pe_ix ix_kdict (pe_glob (v := .ref aI) rfl gI rfl) (pe_ix ix_tup (pv 0) pe_int (fun _ _ => rfl)) (fun _ _ => rfl)) (pa_cons (pe_slice sl_tup (pv 0) (po_some pe_int) po_none) pa_nil))) (blkOk_by (N := ["node", "form", "item"]) (sc := defScope s_parts) (by decide +kernel))
      (fun _ _ _ _ _ => pg_tup rfl (pgs_cons (pg_name (i := 1) ndp rfl (Or.inl rfl)) (pgs_cons (pg_name (i := 2) ndp rfl (Or.inl rfl)) pgs_nil))) (fun _ _ _ _ _ => pts_one (pt_cmpR (op_in_seq : OpR _ _ (rIn K false)) (pv 1) (pe_glob (v := .ref aP) rfl gP rfl) (by rfl))) (fun _ _ _ _ _ => pv 2)))), ?_⟩
  obtain ⟨rest, hp, hR⟩ := hT.rest
  obtain ⟨hlen, qs, hpick, hPq⟩ := rest_pick hR
  obtain ⟨fl1, fl3⟩ := forms_len nd
  refine ret_raw (?_ : tLc _ _ _ _ _ _ _ _)
  refine (ev_op (ev_c (v := .ref aI)) (ev_op (ev_var rfl) ev_c (rv_ixT (st_of hp) (atI_nat (j := 0) rfl))) fun G e Q q => ⟨aI, nd.word, .ref tf, rfl, rfl, kd, q G (Ex.refl G)⟩) H (Ex.refl H) _ fun H1 e1 => ?_
  refine (?_ : tSl _ _ _ _ _ _ _)
  refine ⟨_, rfl, 1, rfl, p, _, rfl, st_of (e1 _ _ hp), fun z => ?_, fun t nt => ?_⟩
  · have := z.1
    simp only [HT.sIx, List.length_cons] at this
    rw [if_neg (by decide)] at this
    simp at this
  have e2 : Ex H1 (upd H1 t (.tup (cutV (.str nd.word :: rest) (some 1) none))) := Ex.new nt
  have ht : (upd H1 t (.tup (cutV (.str nd.word :: rest) (some 1) none))) t = some (.tup rest) := by
    rw [upd_same]
    congr 2
    have : cutV (.str nd.word :: rest) (some 1) none = ((V.str nd.word :: rest).take (V.str nd.word :: rest).length).drop 1 := by
      simp [cutV, HT.sIx]
    rw [this, List.take_length]
    rfl
  generalize upd H1 t (.tup (cutV (.str nd.word :: rest) (some 1) none)) = H2 at e2 ht ⊢
  have e02 := e1.trans e2
  refine ⟨tf, t, _, _, rfl, .inr ⟨hf H2, st_of ht, fun Dl nD => ?_⟩⟩
  have nDt : Dl ≠ t := fun z => by rw [z, ht] at nD; exact nomatch nD
  have nm : (nd.forms.map V.str).length = nd.forms.length := List.length_map ..
  refine lc_it (n := nd.forms.length) (walk_zipT (xs := nd.forms.map V.str) (ys := rest) (by rw [nm, hlen, Nat.min_self])) (fun i G => H2 Dl = none ∧ Bu Dl H2 G ∧ G Dl = some (.lst (pick (nd.forms.take i) (rest.take i)))) ⟨nD, fun b o nb q => by rw [upd_ne nb]; exact q, by rw [upd_same]; rfl⟩ (fun i G _ h => ⟨hf G, st_of (h.2.1 _ _ (Ne.symm nDt) ht)⟩) ?_ ?_
  · intro i x G G' hi hp2 hy
    obtain ⟨_, bu, hD⟩ := hp2
    obtain ⟨T, x1, x2, rfl, hTn, rfl, h1, h2⟩ := hy
    have h1 : (nd.forms.map V.str)[i]? = some x1 := h1
    have h2 : rest[i]? = some x2 := h2
    rw [List.getElem?_map] at h1
    obtain ⟨fo, hfo, rfl⟩ := Option.map_eq_some_iff.mp h1
    have stp := pick_step nd.forms rest i fo x2 hfo h2
    have nDT : Dl ≠ T := fun z => by rw [← z, hD] at hTn; exact nomatch hTn
    have eT : Ex G (upd G T (.tup [.str fo, x2])) := Ex.new hTn
    have hT2 : (upd G T (.tup [.str fo, x2])) T = some (.tup [.str fo, x2]) := upd_same
    generalize upd G T (.tup [.str fo, x2]) = G5 at eT hT2 ⊢
    refine ⟨T, _, rfl, st_of hT2, rfl, _, _, rfl, _, _, rfl, rfl, ?_⟩
    refine ⟨rfl, ?_⟩
    refine (et_test (ev_op (ev_var rfl) ev_c (rv_isT (tP G5) rfl rfl))) G5 (Ex.refl G5) _ fun G6 e6 => ?_
    have bu6 : Bu Dl H2 G6 := bu.trans ((Bu.of eT).trans (Bu.of e6))
    cases hpt : isPart fo with
    | true =>
      rw [if_pos (show inV (.str fo) vPARTS = true from hpt)]
      refine ⟨x2, rfl, _, e6 _ _ (eT _ _ hD), ?_, nD, fun b o nb q => by rw [upd_ne nb]; exact bu6 b o nb q, ?_⟩
      · have := pick_len (nd.forms.take i) (rest.take i)
        rw [List.length_take] at this
        exact sz_lt (by omega)
      · rw [upd_same, stp, if_pos hpt]
    | false =>
      rw [if_neg (show ¬ inV (.str fo) vPARTS = true from by rw [show inV (.str fo) vPARTS = false from hpt]; decide)]
      refine ⟨nD, bu6, ?_⟩
      rw [stp, if_neg (by rw [hpt]; decide), List.append_nil]
      exact e6 _ _ (eT _ _ hD)
  · intro G hp2
    obtain ⟨_, bu, hD⟩ := hp2
    rw [← hlen] at hD
    rw [hlen, List.take_length, ← hlen, List.take_length, hpick] at hD
    have eG : Ex H G := fun b o q => bu b o (fun z => by have := e02 _ _ q; rw [z, nD] at this; exact nomatch this) (e02 _ _ q)
    exact hQ Dl qs G (fresh_back e02 nD) eG hD (hPq.tk (TupK.of eG))

theorem sc__check_node : FnScope ["path", "node", "needed", "unused", "places", "at", "part", "place", "form"] ["path", "node", "needed", "unused"] (defScope s__check_node) := ⟨rfl, rfl, rfl, by decide +kernel, rfl, by decide +kernel, by decide +kernel⟩
theorem step__check_node {d k : Nat} (D : Df K mg "_check_node" s__check_node ["path", "node", "needed", "unused"] f fd) (hk2 : 2 ≤ k) (cIt : CIt K w mg) (cP : CT K mg "PART_FORMS" vPARTS) (cf : Cl P w K mg base 1 "_has_form" ["node", "needed"] (PV (preForm K))) (ci : Cl P w K mg base 2 "_has_items" ["node", "unused"] spItems) (cp : Cl P w K mg base 1 "parts" ["node"] spParts) (czi : mg "zip" = none) (cen : mg "enumerate" = none)
    (cs : Cl P w K mg base k "_check_node" ["path", "node", "needed", "unused"] (spNode K d)) : FnG P w K mg base CX0 (k + 1) f fd ["path", "node", "needed", "unused"] (spNode K (d + 1)) := by
  refine df_ok D sc__check_node (fun vs H Q E h => by obtain ⟨t, p, x, u, pt, nd, ns, rfl, _⟩ := h; rfl) (fun cdv A outer s H vs Q E hG hr h => ?_)
  obtain ⟨t, p, x, u, pt, nd, ns, rfl, ht, hpt, hT, hw, hsz, hx, hu0, hv, hvn, hns, hQ⟩ := h
  have ndp := sc__check_node.nd
  have hk1 : 1 ≤ k := by omega
  have hu := hu_of hr
  obtain ⟨aI, es, nn, gI, kI, fI⟩ := cIt
  obtain ⟨aP, gP, tP⟩ := cP
  obtain ⟨tf, nsf, hf⟩ := fI nd
  have kd : KDct K w aI nd.word (.ref tf) := ⟨es, nn, _, kI.at_, kI.lit, nsf, rfl⟩
  refine ⟨_, (pss_cons (ps_if (PW.pt (pw_or (pt_not (pt_val (pe_cl cf hG hr rfl (pa_cons (pv 1) (pa_cons (pv 2) pa_nil)) hk1))) (pw_or1 (pt_not (pt_val (pe_cl ci hG hr rfl (pa_cons (pv 1) (pa_cons (pv 3) pa_nil)) hk2)))))) (pss_one ps_never) pss_nil) (pss_cut (ps_if (pt_cmpR op_eq (pe_ix ix_tup (pv 1) pe_int (fun _ _ => rfl)) pe_str (nomark _)) (pss_one (ps_ddel (pv 3) (pe_ix ix_tup (pv 1) pe_int (fun _ _ => rfl)))) pss_nil) (pss_cons (ps_setLc (i := 4) (own := [("form", 8)]) (g := gName 8) rfl ndp rfl rfl (sw_true rfl rfl rfl (by decide +kernel)) (pi_tup (pe_ix ix_kdict (pe_glob (v := .ref aI) rfl gI rfl) (pe_ix ix_tup (pv 1) pe_int (fun _ _ => rfl)) (fun _ _ => rfl))) (blkOk_by (N := ["path", "node", "needed", "unused", "places", "at", "part", "place", "form"]) (sc := defScope s__check_node) (by decide +kernel)) (fun _ _ _ _ _ => pg_name (i := 8) ndp rfl (Or.inl rfl)) (fun _ _ _ _ _ => pts_one (pt_cmpR (op_in_seq : OpR _ _ (rIn K false)) (pv 8) (pe_glob (v := .ref aP) rfl gP rfl) (by rfl))) (fun _ _ _ _ _ => pv 8)) (pss_one (ps_for PassesOwn.never rfl (pi_ez (by rfl) cen (by rfl) czi (pa_cons (pe_cl cp hG hr rfl (pa_cons (pv 1) pa_nil) hk1) (pa_cons (pv 4) pa_nil))) (pg_tup rfl (pgs_cons (pg_name (i := 5) ndp rfl (.inl rfl)) (pgs_cons (pg_tup rfl (pgs_cons (pg_name (i := 6) ndp rfl (.inl rfl)) (pgs_cons (pg_name (i := 7) ndp rfl (.inl rfl)) pgs_nil))) pgs_nil)))
        (pss_one (ps_expr (pe_cl cs hG hr rfl (pa_cons (pe_op op_catA (pv 0) (pe_tup (pa_cons (pv 5) pa_nil))) (pa_cons (pv 6) (pa_cons (pv 7) (pa_cons (pv 3) pa_nil)))) (Nat.le_refl _))))))))), ?_⟩
  obtain ⟨rest, hd⟩ := hT.head
  have w0 : ∀ {G : Hp} {y4 : Option V}, G p = some (.tup (.str nd.word :: rest)) → Ev (tOp (rIxT K) (tVar 1) (tC (.int 0))) [some (.ref t), some (.ref p), some x, some (.ref u), y4, none, none, none, none] G (.str nd.word) := fun h => ev_op (ev_var rfl) ev_c (rv_ixT (st_of h) (atI_nat (j := 0) rfl))
  refine q_when (b := false) (et_or (a := false) (b := false) (et_is (et_not (et_B (ev_call (ea_cons (ev_var rfl) (ea_cons (ev_var rfl) ea_nil)) (PV.sp (v := .bl true) fun H1 e => ⟨p, nd, x, rfl, hT.ex e, hx, rfl⟩)))) rfl) (fun _ => et_is (et_not (et_B (ev_call (z := .bl true) (ea_cons (ev_var rfl) (ea_cons (ev_var rfl) ea_nil)) fun H1 e Q2 q E2 => ⟨p, nd, u, ns, rfl, hT.ex e, hw, hv, e _ _ hu0, fun H2 e2 => q H2 e2⟩))) rfl)) (fun z => nomatch z) (fun _ H1 e1 => ?_)
  have hu1 := e1 _ _ hu0
  have hd1 := e1 _ _ hd
  refine q_cut (M := fun σ' G => σ' = [some (.ref t), some (.ref p), some x, some (.ref u), none, none, none, none, none] ∧ Bu u H1 G ∧ ∃ ns1 : List Str, G u = some (.dK (seenL ns1)) ∧ ns1.length ≤ 100 ∧ ((nd.parts = [] ∧ ns1 = without ns nd.vars) ∨ (nd.vars = varsL nd.parts ∧ ns1 = ns))) ?_ ?_
  · by_cases hwv : nd.word = "var"
    · obtain ⟨v0, rfl⟩ := word_var hwv
      have hp1 : H1 p = some (.tup [.str "var", .str v0]) := e1 _ _ hT
      refine s_when (b := true) (et_is (et_test (ev_op (w0 hd1) ev_c (rv_eq rfl))) (decide_eq_true rfl)) (fun _ H2 e2 => ?_) (fun z => nomatch z)
      refine ⟨_, rfl, (ev_op (ev_var rfl) ev_c (rv_ixT (st_of (e2 _ _ hp1)) (atI_nat (j := 1) rfl))) H2 (Ex.refl H2) _ fun H3 e3 => ⟨u, seenL ns, .inr v0, rfl, (e2.trans e3) _ _ hu1, rfl, ?_, rfl, fun b o nb z => ?_, without ns [v0], ?_, Nat.le_trans (without_len _ _) hns, .inl ⟨rfl, rfl⟩⟩⟩
      · rw [seen_in]
        exact decide_eq_true (hv v0 (List.mem_cons_self ..))
      · rw [upd_ne nb]
        exact (e2.trans e3) _ _ z
      · rw [upd_same, seen_drop]
        rfl
    · refine s_when (b := false) (et_is (et_test (ev_op (w0 hd1) ev_c (rv_eq rfl))) (decide_eq_false fun z => hwv (V.str.inj z))) (fun z => nomatch z) (fun _ H2 e2 => ⟨rfl, Bu.of e2, ns, e2 _ _ hu1, hns, .inr ⟨vars_parts fun v0 z => hwv (by rw [z]; rfl), rfl⟩⟩)
  intro σ' G hM
  obtain ⟨rfl, bG, ns1, hu2, hns1, hcase⟩ := hM
  have nu : ∀ {b : Addr} {o : HO}, H1 b = some o → (∀ kvs, o ≠ .dK kvs) → b ≠ u := fun h n z => by
    rw [z, hu1] at h
    exact n _ (Option.some.inj h).symm
  have tkG : TupK H1 G := fun b xs h => bG b _ (nu h fun kvs z => nomatch z) h
  have hdG := tkG _ _ hd1
  have hTG := (hT.ex e1).tk tkG
  have htG : SqT K G t (pathV pt) := sqt_dk bG hu1 (ex_t e1 ht)
  refine q_raw (?_ : tLc _ _ _ _ _ _ _ _)
  refine (ev_op (ev_c (v := .ref aI)) (w0 hdG) fun G2 e Q q => ⟨aI, nd.word, .ref tf, rfl, rfl, kd, q G2 (Ex.refl G2)⟩) G (Ex.refl G) _ fun G1 e2 => ⟨tf, rfl, ⟨_, hf G1⟩, fun Dl nD => ?_⟩
  obtain ⟨fl1, fl3⟩ := forms_len nd
  have hu3 := e2 _ _ hu2
  have nDu : Dl ≠ u := fun z => by rw [z, hu3] at nD; exact nomatch nD
  have exD : ∀ {F : Hp}, Bu Dl G1 F → Ex G1 F := fun bu b o q => bu b o (fun z => by rw [z, nD] at q; exact nomatch q) q
  refine lc_it (n := (nd.forms.map V.str).length) walk_tup (fun i F => Bu Dl G1 F ∧ F Dl = some (.lst (((nd.forms.take i).filter isPart).map V.str))) ⟨fun b o nb q => by rw [upd_ne nb]; exact q, by rw [upd_same]; rfl⟩ (fun i F _ h => hf F) ?_ ?_
  · intro i y F F' hi hp hy
    obtain ⟨bu, hD⟩ := hp
    obtain ⟨rfl, h1⟩ := hy
    rw [List.getElem?_map] at h1
    obtain ⟨fo, hfo, rfl⟩ := Option.map_eq_some_iff.mp h1
    have htk : nd.forms.take (i + 1) = nd.forms.take i ++ [fo] := by rw [List.take_add_one, hfo]; rfl
    refine (⟨rfl, ?_⟩ : _ ∧ _)
    refine (et_test (ev_op (ev_var rfl) ev_c (rv_isT (tP F') rfl rfl))) F' (Ex.refl F') _ fun F2 e3 => ?_
    have bu2 : Bu Dl G1 F2 := bu.trans (Bu.of e3)
    cases hpt : isPart fo with
    | true =>
      rw [if_pos (show inV (.str fo) vPARTS = true from hpt)]
      refine ⟨.str fo, rfl, _, e3 _ _ hD, ?_, fun b o nb q => by rw [upd_ne nb]; exact bu2 b o nb q, ?_⟩
      · have := List.length_filter_le isPart (nd.forms.take i)
        rw [List.length_map]
        rw [List.length_take] at this
        exact sz_lt (by omega)
      · rw [upd_same, htk, List.filter_append, List.map_append, show [fo].filter isPart = [fo] by simp [hpt]]
        rfl
    | false =>
      rw [if_neg (show ¬ inV (.str fo) vPARTS = true from by rw [show inV (.str fo) vPARTS = false from hpt]; decide)]
      refine ⟨bu2, ?_⟩
      rw [htk, List.filter_append, show [fo].filter isPart = [] by simp [hpt], List.append_nil]
      exact e3 _ _ hD
  intro F hp
  obtain ⟨bF, hD⟩ := hp
  have hft : nd.forms.take (nd.forms.map V.str).length = nd.forms := List.take_of_length_le (by rw [List.length_map]; exact Nat.le_refl _)
  rw [hft, forms_parts hw] at hD
  have eF := e2.trans (exD bF)
  have huF := eF _ _ hu2
  have hTF := hTG.ex eF
  dsimp only [gName, List.set]
  refine (ev_var (v := .ref p) rfl) F (Ex.refl F) _ fun F1 e3 => ⟨p, nd, rfl, hTF.ex e3, fun l qs F2 n4 e4 h4 hP => ?_⟩
  have e34 := e3.trans e4
  have hD2 := e34 _ _ hD
  have hu4 := e34 _ _ huF
  obtain ⟨hPl, hPa⟩ := hP.at
  have nlu : l ≠ u := ne_of h4 hu4 fun z => nomatch z
  refine ⟨_, rfl, l, Dl, qs.map V.ref, (nd.parts.map formOf).map V.str, rfl, sq_of h4, sq_of hD2, ?_⟩
  refine for_it (n := nd.parts.length) (walk_ez (by rw [List.length_map, List.length_map, List.length_map, hPl, Nat.min_self])) (fun i σ F' => Bu u F2 F' ∧ F' u = some (.dK (seenL (without ns1 (varsL (nd.parts.take i))))) ∧ ∃ y5 y6 y7, σ = [some (.ref t), some (.ref p), some x, some (.ref u), some (.ref Dl), y5, y6, y7, none]) ⟨Bu.refl u F2, by rw [hu4]; congr 3; exact (without_nil ns1).symm, none, none, none, rfl⟩ (fun i σ F' _ h => ⟨sq_of (h.1 _ _ nlu h4), sq_of (h.1 _ _ nDu hD2)⟩) ?_ ?_
  · intro i v σ F' F'' hi hp hy
    obtain ⟨bu, hu5, y5, y6, y7, rfl⟩ := hp
    obtain ⟨T1, T2, x1, x2, rfl, f1, f2, f12, rfl, h1, h2⟩ := hy
    have h1 : (qs.map V.ref)[i]? = some x1 := h1
    have h2 : ((nd.parts.map formOf).map V.str)[i]? = some x2 := h2
    rw [List.getElem?_map] at h1
    obtain ⟨q, hq, rfl⟩ := Option.map_eq_some_iff.mp h1
    obtain ⟨en, hen, hTe⟩ := hPa i q hq
    rw [List.getElem?_map, List.getElem?_map, hen] at h2
    have h2 : V.str (formOf en) = x2 := Option.some.inj h2
    subst h2
    obtain ⟨hwe, hse⟩ := parts_wf hw en (List.mem_of_getElem? hen)
    have e5 : Ex F' (upd F' T1 (.tup [.ref q, .str (formOf en)])) := Ex.new f1
    have hT1 : (upd F' T1 (.tup [.ref q, .str (formOf en)])) T1 = some (.tup [.ref q, .str (formOf en)]) := upd_same
    have f2' : (upd F' T1 (.tup [.ref q, .str (formOf en)])) T2 = none := by rw [upd_ne (Ne.symm f12)]; exact f2
    generalize upd F' T1 (.tup [.ref q, .str (formOf en)]) = F3 at e5 hT1 f2' ⊢
    have e6 : Ex F3 (upd F3 T2 (.tup [.int (i : Nat), .ref T1])) := Ex.new f2'
    have hT2 : (upd F3 T2 (.tup [.int (i : Nat), .ref T1])) T2 = some (.tup [.int (i : Nat), .ref T1]) := upd_same
    generalize upd F3 T2 (.tup [.int (i : Nat), .ref T1]) = F4 at e6 hT2 ⊢
    refine ⟨T2, _, rfl, st_of hT2, rfl, _, _, rfl, _, _, rfl, T1, _, rfl, st_of (e6 _ _ hT1), rfl, _, _, rfl, _, _, rfl, rfl, rfl, ?_⟩
    dsimp only [List.set]
    have tkF : TupK F2 F' := fun b xs h => bu b _ (fun z => by rw [z, hu4] at h; exact nomatch h) h
    have tk2 : TupK F2 F4 := tkF.trans (TupK.of (e5.trans e6))
    have e56 := e5.trans e6
    have ht4 : SqT K F4 t (pathV pt) := ex_t e56 (sqt_dk bu hu4 (ex_t e34 (ex_t eF htG)))
    refine (?_ : tCall _ _ _ _ _ _ _)
    refine (?_ : tOp _ _ _ _ _ _)
    refine op_raw ⟨_, rfl, ?_⟩
    refine (eu_tup (ea_cons (ev_var rfl) ea_nil) (by simp)) F4 (Ex.refl F4) _ fun tp F5 n7 e7 h7 => ?_
    refine cat_at (ex_t e7 ht4) (st_of h7) (by simp) (by simp only [pathV, List.length_map, List.length_cons, List.length_nil]; omega) fun tt F6 e8 h8 => ?_
    refine ea_at (ev_var rfl) fun F7 e9 => ea_at (ev_var rfl) fun F8 e10 => ea_at (ev_var rfl) fun F9 e11 => ?_
    have e49 := (e7.trans e8).trans (e9.trans (e10.trans e11))
    have hsp := varsL_split hen
    have hvp : nd.vars = varsL nd.parts ∧ ns1 = ns := by
      rcases hcase with ⟨z, _⟩ | z
      · rw [z] at hen
        exact nomatch hen
      · exact z
    obtain ⟨hvp1, rfl⟩ := hvp
    have hnd := hvn
    rw [hvp1, hsp] at hnd
    have hn2 := List.nodup_append.mp hnd
    have hn3 := List.nodup_append.mp hn2.2.1
    refine ⟨tt, q, .str (formOf en), u, pt ++ [i], en, without ns1 (varsL (nd.parts.take i)), rfl, by rw [pathV, List.map_append]; exact ex_t (e9.trans (e10.trans e11)) h8, by rw [List.length_append, List.length_cons, List.length_nil]; omega, (hTe.tk tk2).ex e49, hwe, by omega, .inr rfl, e49 _ _ (e56 _ _ hu5), fun y hy => ?_, hn3.1, Nat.le_trans (without_len _ _) hns1, fun F10 b10 h10 => ⟨fun b o nb z => b10 b o nb (e49 _ _ (e56 _ _ (bu b o nb z))), ?_, _, _, _, rfl⟩⟩
    · rw [without_in]
      refine ⟨hv y (by rw [hvp1, hsp]; exact List.mem_append_right _ (List.mem_append_left _ hy)), fun hm => ?_⟩
      exact hn2.2.2 y hm y (List.mem_append_left _ hy) rfl
    · rw [h10, without_two, varsL_take hen]
  · intro σ F' hp
    obtain ⟨bu, hu5, y5, y6, y7, rfl⟩ := hp
    refine hQ F' (fun b o nb z => bu b o nb (e34 _ _ (eF _ _ (bG b o nb (e1 _ _ z))))) ?_
    rw [hu5, List.take_length]
    rcases hcase with ⟨z1, z2⟩ | ⟨z1, z2⟩
    · rw [z1, z2]
      congr 3
      exact without_nil _
    · rw [← z1, z2]

theorem sc_check_expression : FnScope ["variables", "expression", "unused", "row"] ["variables", "expression"] (defScope s_check_expression) := ⟨rfl, rfl, rfl, by decide +kernel, rfl, by decide +kernel, by decide +kernel⟩
theorem ok_check_expression {k : Nat} (D : Df K mg "check_expression" s_check_expression ["variables", "expression"] f fd) (cn : Cl P w K mg base k "_check_node" ["path", "node", "needed", "unused"] (spNode K 30)) : FnG P w K mg base CX0 (k + 1) f fd ["variables", "expression"] spCE := by
  refine df_ok D sc_check_expression (fun vs H Q E h => by obtain ⟨l, p, rows, nd, rfl, _⟩ := h; rfl) (fun cdv A outer s H vs Q E hG hr h => ?_)
  obtain ⟨l, p, rows, nd, rfl, hV, hz, hnd, hT, hw, hs, hv, hvn, hQ⟩ := h
  have ndp := sc_check_expression.nd
  refine ⟨_, (pss_cons (ps_setDc (j := 2) (own := [("row", 3)]) (g := gName 3) (tt := tYes) rfl ndp rfl rfl (sw_dict rfl rfl rfl (by decide +kernel)) (pi_list (pv 0)) (blkOk_by (N := ["variables", "expression", "unused", "row"]) (sc := defScope s_check_expression) (by decide +kernel)) (fun _ _ _ _ _ => pg_name (i := 3) ndp rfl (Or.inl rfl)) (fun _ _ _ _ _ => pts_nil) (fun _ _ _ _ _ => pe_ix (ix_tup : IxR _ (rIxT K)) (pv 3) pe_int (fun _ _ => rfl)) (fun _ _ _ _ _ => pe_bl)) (pss_one (ps_expr (pe_cl cn hG hr rfl (pa_cons (pe_tup pa_nil) (pa_cons (pv 1) (pa_cons pe_non (pa_cons (pv 2) pa_nil)))) (Nat.le_refl _))))), ?_⟩
  obtain ⟨ps, hl, hlen, hrow⟩ := id hV
  have hpl : (ps.map V.ref).length = rows.length := by rw [List.length_map, hlen]
  refine q_raw (?_ : tDc _ _ _ _ _ _ _ _ _)
  refine ⟨_, rfl, l, rfl, ⟨_, sq_of hl⟩, fun Dl nD => ?_⟩
  have nlD : l ≠ Dl := fun z => by rw [← z, hl] at nD; exact nomatch nD
  have exH : ∀ {G : Hp}, Bu Dl H G → Ex H G := fun bu b o q => bu b o (fun z => by rw [z, nD] at q; exact nomatch q) q
  refine dc_walk (n := (ps.map V.ref).length) walk_list (fun i G => Bu Dl H G ∧ G Dl = some (.dK (seenL ((rows.map Row.name).take i)))) ⟨fun b o nb q => by rw [upd_ne nb]; exact q, by rw [upd_same]; rfl⟩ (fun i G _ h => sq_of (h.1 _ _ nlD hl)) ?_ ?_
  · intro i x G G' hi hp hy
    obtain ⟨bu, hD⟩ := hp
    obtain ⟨rfl, hx⟩ := hy
    rw [List.getElem?_map] at hx
    obtain ⟨q, hq, rfl⟩ := Option.map_eq_some_iff.mp hx
    have hir : i < rows.length := by rw [← hpl]; exact hi
    have hri : rows[i]? = some rows[i] := List.getElem?_eq_getElem hir
    obtain ⟨p2, q1, q2⟩ := hrow i rows[i] hri
    rw [hq] at q1
    cases q1
    have hnew : rows[i].name ∉ (rows.map Row.name).take i := fun hm => by
      have h1 : (rows.map Row.name)[i]? = some rows[i].name := by rw [List.getElem?_map, hri]; rfl
      obtain ⟨j, hj1, hj2⟩ := List.getElem_of_mem hm
      rw [List.length_take] at hj1
      rw [List.getElem_take] at hj2
      have := (List.getElem_inj (i := j) (j := i) (h₀ := by omega) (h₁ := by rw [List.length_map]; exact hir) hnd).mp (by rw [hj2, List.getElem_map])
      omega
    have htk : (rows.map Row.name).take (i + 1) = (rows.map Row.name).take i ++ [rows[i].name] := by
      rw [List.take_add_one, List.getElem?_map, hri]
      rfl
    rw [htk, ← seen_put hnew]
    have q3 := exH bu _ _ q2
    refine (⟨rfl, ?_⟩ : _ ∧ _)
    dsimp only [tYes, List.set]
    rw [if_pos rfl]
    refine (ev_op (ev_var rfl) ev_c (rv_ixT (st_of q3) (atI_nat (j := 0) rfl))) G' (Ex.refl G') _ fun G1 e1 => ev_c G1 (Ex.refl G1) _ fun G2 e2 => ⟨_, .inr rows[i].name, rfl, (e1.trans e2) _ _ hD, ?_, fun b o nb z => ?_, upd_same⟩
    · unfold seenL
      rw [List.length_map, List.length_take]
      exact sz_lt (by omega)
    · rw [upd_ne nb]
      exact (e1.trans e2) _ _ (bu b o nb z)
  · intro G hp
    obtain ⟨bu, hD⟩ := hp
    have hrl : (rows.map Row.name).take (ps.map V.ref).length = rows.map Row.name := List.take_of_length_le (by rw [hpl, List.length_map]; exact Nat.le_refl _)
    rw [hrl] at hD
    have eG := exH bu
    refine (?_ : tCall _ _ _ _ _ _ _)
    refine (?_ : tCons _ _ _ _ _)
    refine ea_atU (eu_tup ea_nil (by simp)) fun tp G1 n1 e1 h1 => ea_at (ev_var rfl) fun G2 e2 => ea_at ev_c fun G3 e3 => ea_at (ev_var rfl) fun G4 e4 => ?_
    have e14 := e1.trans (e2.trans (e3.trans e4))
    refine ⟨tp, p, .non, Dl, [], nd, rows.map Row.name, rfl, st_of ((e2.trans (e3.trans e4)) _ _ h1), by simp only [List.length_nil]; omega, hT.ex (eG.trans e14), hw, hs, .inl rfl, e14 _ _ hD, hv, hvn, by rw [List.length_map]; exact hz, fun G5 b5 _ => hQ G5 fun b o z => ?_⟩
    exact b5 b o (fun w => by rw [w, nD] at z; exact nomatch z) (e14 _ _ (eG _ _ z))

theorem sc_all_nodes : FnScope ["expression", "path", "found", "at", "part"] ["expression", "path"] (defScope s_all_nodes) := ⟨rfl, rfl, rfl, by decide +kernel, rfl, by decide +kernel, by decide +kernel⟩
theorem step_all_nodes {d k : Nat} {dvs : List V} (D : Dd K mg "all_nodes" s_all_nodes ["expression", "path"] dvs f fd) (hk1 : 1 ≤ k) (cp : Cl P w K mg base 1 "parts" ["node"] spParts) (cen : mg "enumerate" = none) (cs : Cl P w K mg base k "all_nodes" ["expression", "path"] (spAll K d)) : FnG P w K mg base CX0 (k + 1) f fd ["expression", "path"] (spAll K (d + 1)) := by
  refine dd_ok D sc_all_nodes (fun vs H Q E h => by obtain ⟨p, t, nd, pt, rfl, _⟩ := h; rfl) (fun cdv A outer s H vs Q E hG hr h => ?_)
  obtain ⟨p, t, nd, pt, rfl, hT, hsz, hs60, ht, hpt, hQ⟩ := h
  have ndp := sc_all_nodes.nd
  refine ⟨_, (pss_cons (ps_set (i := 2) ndp rfl (.inl rfl) (pe_lst (pa_cons (pe_tup (pa_cons (pv 1) (pa_cons (pv 0) pa_nil))) pa_nil))) (pss_cons (ps_for PassesOwn.never rfl (pi_enum (by rfl) cen (pa_cons (pe_cl cp hG hr rfl (pa_cons (pv 0) pa_nil) hk1) pa_nil)) (pg_tup rfl (pgs_cons (pg_name (i := 3) ndp rfl (.inl rfl)) (pgs_cons (pg_name (i := 4) ndp rfl (.inl rfl)) pgs_nil)))
        (pss_one (ps_expr (pe_bm PySem.F.plainAttrs_list PySem.F.slot_list_extend PySem.F.type_list_extend mt_extend (pv 2) (pa_cons (pe_cl cs hG hr rfl (pa_cons (pv 4) (pa_cons (pe_op op_catA (pv 1) (pe_tup (pa_cons (pv 3) pa_nil))) pa_nil)) (Nat.le_refl _)) pa_nil))))) (pss_one (ps_ret (pv 2))))), ?_⟩
  refine q_raw (lst_raw (?_ : tCons _ _ _ _ _))
  refine ea_atU (eu_tup (ea_cons (ev_var rfl) (ea_cons (ev_var rfl) ea_nil)) (by simp)) fun a H1 n1 e1 h1 => ⟨by show 1 ≤ sizeLine; decide, fun l nl => ?_⟩
  have e2 : Ex H1 (upd H1 l (.lst [.ref a])) := Ex.new nl
  have hl2 : (upd H1 l (.lst [.ref a])) l = some (.lst [.ref a]) := upd_same
  generalize upd H1 l (.lst [.ref a]) = H2 at e2 hl2 ⊢
  have e02 := e1.trans e2
  have ha2 := e2 _ _ h1
  have nlH : H l = none := fresh_back e1 nl
  dsimp only [List.set]
  refine (ev_var (v := .ref p) rfl) H2 (Ex.refl H2) _ fun H3 e3 => ⟨p, nd, rfl, hT.ex (e02.trans e3), fun lq qs H4 n4 e4 h4 hP => ?_⟩
  have e24 := e3.trans e4
  have e04 := e02.trans e24
  have hl4 := e24 _ _ hl2
  obtain ⟨hPl, hPa⟩ := hP.at
  have nql : lq ≠ l := fun z => by rw [z, e3 _ _ hl2] at n4; exact nomatch n4
  have hlenq : (qs.map V.ref).length = nd.parts.length := by rw [List.length_map, hPl]
  have exH : ∀ {G : Hp}, Bu l H4 G → Ex H G := fun bu b o q => bu b o (fun z => by rw [z, nlH] at q; exact nomatch q) (e04 _ _ q)
  refine ⟨lq, qs.map V.ref, rfl, sq_of h4, for_it (n := (qs.map V.ref).length) walk_enum (fun i σ G => Bu l H4 G ∧ AllAt K G l ((pt, nd) :: ((nd.parts.take i).zipIdx.flatMap fun q => allF d q.1 (pt ++ [q.2]))) ∧ ∃ y3 y4, σ = [some (.ref p), some (.ref t), some (.ref l), y3, y4]) ⟨Bu.refl l H4, ⟨[a], hl4, rfl, fun j it h => ?_⟩, none, none, rfl⟩ (fun i σ G _ h => sq_of (h.1 _ _ nql h4)) ?_ ?_⟩
  · match j, h with
    | 0, h =>
      cases (Option.some.inj h)
      exact ⟨a, t, p, rfl, e24 _ _ ha2, ex_t e04 ht, hT.ex e04⟩
  · intro i x σ G G' hi hp hy
    obtain ⟨bu, hA, y3, y4, rfl⟩ := hp
    obtain ⟨T, x3, x4, rfl, hTn, rfl, h5, h6⟩ := hy
    cases h5
    have h6 : (qs.map V.ref)[i]? = some x4 := h6
    rw [List.getElem?_map] at h6
    obtain ⟨q, hq, rfl⟩ := Option.map_eq_some_iff.mp h6
    obtain ⟨en, hen, hTe⟩ := hPa i q hq
    have eT : Ex G (upd G T (.tup [.int (i : Nat), .ref q])) := Ex.new hTn
    have hT2 : (upd G T (.tup [.int (i : Nat), .ref q])) T = some (.tup [.int (i : Nat), .ref q]) := upd_same
    generalize upd G T (.tup [.int (i : Nat), .ref q]) = G5 at eT hT2 ⊢
    refine ⟨T, _, rfl, st_of hT2, rfl, _, _, rfl, _, _, rfl, rfl, ?_⟩
    dsimp only [List.set]
    obtain ⟨ps, hps, hpl, hpi⟩ := id hA
    refine (?_ : tBM _ _ _ _ _ _ _ _)
    refine pop_raw (i := 2) rfl (eT _ _ hps) (?_ : tCons _ _ _ _ _)
    refine (?_ : tCall _ _ _ _ _ _ _)
    refine ea_at (ev_var rfl) fun G6 e6 => ?_
    refine (?_ : tOp _ _ _ _ _ _)
    refine op_raw ⟨_, rfl, ?_⟩
    refine (eu_tup (ea_cons (ev_var rfl) ea_nil) (by simp)) G6 (Ex.refl G6) _ fun tp G7 n7 e7 h7 => ?_
    have hse : en.size < nd.size := by
      have h1 := size_sum nd
      have h2 := sum_take nd.parts i en hen
      have h3 := sum_le nd.parts (i + 1)
      omega
    have e57 := eT.trans (e6.trans e7)
    have ht7 : SqT K G7 t (pathV pt) := ex_t e57 (ex_t (exH bu) ht)
    refine cat_at ht7 (st_of h7) (by simp) (by simp only [pathV, List.length_map, List.length_cons, List.length_nil]; omega) fun tt G8 e8 h8 => ?_
    have e58 := e57.trans e8
    have tkG : TupK H4 G := fun b xs h => bu b _ (fun z => by rw [z, hl4] at h; exact nomatch h) h
    refine ⟨q, tt, en, pt ++ [i], rfl, (hTe.tk tkG).ex e58, by omega, by omega, by rw [pathV, List.map_append]; exact h8, by rw [List.length_append, List.length_cons, List.length_nil]; omega, fun l2 G9 n9 e9 hA2 => ?_⟩
    obtain ⟨ps2, hps2, hpl2, hpi2⟩ := hA2
    have hps9 := e9 _ _ (e58 _ _ hps)
    have nl2 : l2 ≠ l := fun z => by rw [z, e58 _ _ hps] at n9; exact nomatch n9
    have hst := flat_take (d := d) (pt := pt) nd.parts 0 i en hen
    rw [Nat.zero_add] at hst
    have tU : TupK G9 (upd G9 l (.lst (ps.map V.ref ++ ps2.map V.ref))) := TupK.upd hps9 fun xs z => nomatch z
    have sU : ∀ {a : Addr} {xs : List V}, SqT K G9 a xs → SqT K (upd G9 l (.lst (ps.map V.ref ++ ps2.map V.ref))) a xs := fun h => by
      rcases h with (h | ⟨o, h⟩) | h
      · exact .inl (.inl (by rw [upd_ne (ne_of h hps9 fun z => by cases z)]; exact h))
      · exact .inl (.inr ⟨o, by rw [upd_ne (ne_of h hps9 fun z => by cases z)]; exact h⟩)
      · exact .inr h
    have lb1 : ps.length + ps2.length ≤ 100000 := by
      have h1 := all_len d en (pt ++ [i])
      have h2 : ps.length ≤ nd.size := by
        have h3 := flat_len (d := d) (pt := pt) (nd.parts.take i) 0
        have h4 := sum_le nd.parts i
        have h5 := size_sum nd
        rw [hpl, List.length_cons]
        omega
      omega
    refine ⟨l, l2, ps.map V.ref, ps2.map V.ref, rfl, rfl, hps9, hps2, by rw [List.length_map, List.length_map]; exact sz_of lb1, fun b o nb z => ?_, ⟨ps ++ ps2, by rw [upd_same, List.map_append], ?_, fun j it hj => ?_⟩, _, _, rfl⟩
    · rw [upd_ne nb]
      exact e9 _ _ (e58 _ _ (bu b o nb z))
    · rw [List.length_append, hpl, hpl2, hst, ← List.cons_append, List.length_append]
    · rw [hst, ← List.cons_append] at hj
      by_cases hjl : j < ps.length
      · rw [List.getElem?_append_left (by rw [← hpl]; exact hjl)] at hj
        obtain ⟨p3, t3, q3, z1, z2, z3, z4⟩ := hpi j it hj
        exact ⟨p3, t3, q3, by rw [List.getElem?_append_left hjl]; exact z1, tU _ _ (e9 _ _ (e58 _ _ z2)), sU (ex_t (e58.trans e9) z3), (z4.ex (e58.trans e9)).tk tU⟩
      · rw [List.getElem?_append_right (by rw [← hpl]; omega), ← hpl] at hj
        obtain ⟨p3, t3, q3, z1, z2, z3, z4⟩ := hpi2 _ it hj
        exact ⟨p3, t3, q3, by rw [List.getElem?_append_right (by omega)]; exact z1, tU _ _ z2, sU z3, z4.tk tU⟩
  · intro σ G hp
    obtain ⟨bu, hA, y3, y4, rfl⟩ := hp
    have htk : nd.parts.take (qs.map V.ref).length = nd.parts := List.take_of_length_le (by rw [hlenq]; exact Nat.le_refl _)
    rw [htk] at hA
    refine s_ret (ev_var rfl) fun G5 e5 => hQ l G5 nlH ((exH bu).trans e5) ?_
    obtain ⟨ps, z1, z2, z3⟩ := hA
    refine ⟨ps, e5 _ _ z1, z2, fun j it hj => ?_⟩
    obtain ⟨p3, t3, q3, w1, w2, w3, w4⟩ := z3 j it hj
    exact ⟨p3, t3, q3, w1, e5 _ _ w2, ex_t e5 w3, w4.ex e5⟩

theorem sc_literal_start : FnScope ["suffix"] ["suffix"] (defScope s_literal_start) := ⟨rfl, rfl, rfl, by decide +kernel, rfl, by decide +kernel, by decide +kernel⟩
theorem ok_literal_start (D : Df K mg "literal_start" s_literal_start ["suffix"] f fd) (cR : CR5 K w mg) (cI : CI mg "INT_RANK" 2) : FnG P w K mg base CX0 1 f fd ["suffix"] (PV preSt) := by
  refine df_ok D sc_literal_start (pre_len1 fun vs H v h => by obtain ⟨s, rfl, _⟩ := h; rfl) (fun cdv A outer s H vs Q E hG hr h => ?_)
  obtain ⟨v, ⟨sf, rfl, hs, rfl⟩, hQ⟩ := h
  obtain ⟨aR, gR, tR⟩ := cR
  refine ⟨_, (pss_cons (ps_if (pt_cmpR op_in_str pe_str (pv 0) (by rfl)) (pss_one (ps_ret (pe_ix ix_kdict (pe_glob (v := .ref aR) rfl gR rfl) pe_str (fun _ _ => rfl)))) pss_nil) (pss_cons (ps_if (pt_cmpR op_in_str pe_str (pv 0) (by rfl)) (pss_one (ps_ret (pe_ix ix_kdict (pe_glob (v := .ref aR) rfl gR rfl) pe_str (fun _ _ => rfl)))) pss_nil) (pss_one (ps_ret (pe_ci rfl cI))))), ?_⟩
  obtain ⟨f1, f2, f3, f4, f5, s2, s4⟩ := suf_facts hs
  refine q_when (et_test (ev_op ev_c (ev_var rfl) rv_inS)) (fun hb H1 e1 => ?_) (fun hb H1 e1 => ?_)
  · rw [f3 hb] at hQ
    exact s_ret (ev_rk tR (k := .wi) ev_c) fun H2 e2 => hQ H2 (e1.trans e2)
  refine q_when (et_test (ev_op ev_c (ev_var rfl) rv_inS)) (fun hb2 H2 e2 => ?_) (fun hb2 H2 e2 => ?_)
  · rw [f4 hb hb2] at hQ
    exact s_ret (ev_rk tR (k := .lo) ev_c) fun H3 e3 => hQ H3 ((e1.trans e2).trans e3)
  · rw [f5 hb hb2] at hQ
    exact s_ret ev_c fun H3 e3 => hQ H3 ((e1.trans e2).trans e3)

theorem sc_literal_kind : FnScope ["model", "number", "suffix", "kinds", "kind"] ["model", "number", "suffix"] (defScope s_literal_kind) := ⟨rfl, rfl, rfl, by decide +kernel, rfl, by decide +kernel, by decide +kernel⟩
theorem ok_literal_kind (D : Df K mg "literal_kind" s_literal_kind ["model", "number", "suffix"] f fd) (cU : CT K mg "UNSIGNED" vUNSIGNED) (cS : CT K mg "SIGNED" vSIGNED) (cl : Cl P w K mg base 1 "literal_start" ["suffix"] (PV preSt)) (ch : Cl P w K mg base 3 "is_held" ["model", "kind", "number"] (PV (preMKI K fun m k i => .bl (decide (m.low k ≤ i ∧ i ≤ m.high k))))) : FnG P w K mg base CX0 4 f fd ["model", "number", "suffix"] (PV (preLit K)) := by
  refine df_ok D sc_literal_kind (pre_len1 fun vs H v h => by obtain ⟨p, m, n, s, rfl, _⟩ := h; rfl) (fun cdv A outer s H vs Q E hG hr h => ?_)
  obtain ⟨v, ⟨p, m, n, sf, rfl, hm, ho, hs, rfl⟩, hQ⟩ := h
  have nd := sc_literal_kind.nd
  obtain ⟨aU, gU, tU⟩ := cU
  obtain ⟨aS, gS, tS⟩ := cS
  refine ⟨_, (pss_cons (ps_set (i := 3) nd rfl (.inl rfl) (pe_ifExp (pt_cmpR op_in_str pe_str (pv 2) (by rfl)) (pe_glob (v := .ref aU) rfl gU rfl) (pe_glob (v := .ref aS) rfl gS rfl))) (pss_cons (ps_for PassesOwn.never rfl (pi_tup (pe_slice sl_tup (pv 3) (po_some (pe_cl cl hG hr rfl (pa_cons (pv 2) pa_nil))) po_none)) (pg_name (i := 4) nd rfl (.inl rfl))
        (pss_one (ps_if (pt_val (pe_cl ch hG hr rfl (pa_cons (pv 0) (pa_cons (pv 4) (pa_cons (pv 1) pa_nil))))) (pss_one (ps_ret (pv 4))) pss_nil))) (pss_one (ps_ret pe_non)))), ?_⟩
  obtain ⟨f1, f2, _, _, _, s2, s4⟩ := suf_facts hs
  have hL : ∀ i : Nat, i < 5 - stOf sf → (cutV (if sgOf sf = true then vSIGNED else vUNSIGNED) (some (stOf sf : Nat)) none)[i]? = some (lawOf (stOf sf + i) (sgOf sf)).v := by
    simp only [sufs, List.mem_cons, List.not_mem_nil, or_false] at hs
    rcases hs with rfl | rfl | rfl | rfl | rfl | rfl <;> decide +kernel
  have hN : (cutV (if sgOf sf = true then vSIGNED else vUNSIGNED) (some ((stOf sf : Nat) : Int)) none).length = 5 - stOf sf := by
    simp only [sufs, List.mem_cons, List.not_mem_nil, or_false] at hs
    rcases hs with rfl | rfl | rfl | rfl | rfl | rfl <;> decide +kernel
  have hW : ¬ (HT.sIx (if sgOf sf = true then vSIGNED else vUNSIGNED).length 0 (some ((stOf sf : Nat) : Int)) = 0 ∧ HT.sIx (if sgOf sf = true then vSIGNED else vUNSIGNED).length (if sgOf sf = true then vSIGNED else vUNSIGNED).length none = (if sgOf sf = true then vSIGNED else vUNSIGNED).length) := by
    simp only [sufs, List.mem_cons, List.not_mem_nil, or_false] at hs
    rcases hs with rfl | rfl | rfl | rfl | rfl | rfl <;> decide +kernel
  refine q_asg (v := .ref (if sgOf sf = true then aS else aU)) (ev_if (b := !sgOf sf) (et_is (et_test (ev_op ev_c (ev_var rfl) rv_inS)) (by rw [f1])) (fun hb => ev_is ev_c (by rw [if_neg (by intro z; rw [z] at hb; exact nomatch hb)])) (fun hb => ev_is ev_c (by rw [if_pos (by cases h : sgOf sf with | true => rfl | false => rw [h] at hb; exact nomatch hb)]))) fun H1 e1 => ?_
  have hT : ∀ G : Hp, SqT K G (if sgOf sf = true then aS else aU) (if sgOf sf = true then vSIGNED else vUNSIGNED) := fun G => by
    split
    · exact tS G
    · exact tU G
  have eS : EvU (tSl (rSlT K) (tVar 3) (tPart (tCall (PV preSt) [] E0 (tCons (tVar 2) tNil))) tNoPart) [some (.ref p), some (.int n), some (.str sf), some (.ref (if sgOf sf = true then aS else aU)), none] H1 (cutV (if sgOf sf = true then vSIGNED else vUNSIGNED) (some ((stOf sf : Nat) : Int)) none) := fun H2 e2 Q2 q2 => ⟨_, rfl, (ev_call (ea_cons (ev_var rfl) ea_nil) (spSt hs)) H2 (Ex.refl H2) _ fun H3 e3 => ⟨_, rfl, _, _, rfl, hT H3, hW, fun t nt => q2 t _ (fresh_back e3 nt) (e3.trans (Ex.new nt)) upd_same⟩⟩
  refine q_forNT eS (fun a i σ H' => Ex H H' ∧ SqT K H' a (cutV (if sgOf sf = true then vSIGNED else vUNSIGNED) (some ((stOf sf : Nat) : Int)) none) ∧ m.litR n (sgOf sf) (5 - stOf sf - i) = m.lit n sf ∧ ∃ y4, σ = [some (.ref p), some (.int n), some (.str sf), some (.ref (if sgOf sf = true then aS else aU)), y4]) ?_ ?_ ?_ ?_
  · exact fun a H2 n2 e2 h2 => ⟨e1.trans e2, st_of h2, rfl, none, rfl⟩
  · exact fun a i σ H' _ h => h.2.1
  · intro a i x σ H' hx hp
    obtain ⟨e2, ha, hl, y4, rfl⟩ := hp
    have hi : i < 5 - stOf sf := by
      have := (List.getElem?_eq_some_iff.mp hx).1
      rw [hN] at this
      exact this
    rw [hL i hi] at hx
    cases hx
    obtain ⟨j, hj⟩ : ∃ j, 5 - stOf sf - i = j + 1 := ⟨5 - stOf sf - i - 1, by omega⟩
    have hr4 : stOf sf + i = 4 - j := by omega
    rw [hr4]
    rw [hj] at hl
    have hj2 : 5 - stOf sf - (i + 1) = j := by omega
    dsimp only [gName, List.set]
    refine s_when (et_B (ev_call (ea_cons (ev_var rfl) (ea_cons (ev_var rfl) (ea_cons (ev_var rfl) ea_nil))) (spMKI (hm.ex e2) ho))) (fun hb2 H4 e4 => ?_) (fun hb2 H4 e4 => ?_)
    · refine s_ret (ev_var rfl) fun H5 e5 => ?_
      have : m.lit n sf = some (lawOf (4 - j) (sgOf sf)) := by
        rw [← hl]
        exact if_pos hb2
      rw [this] at hQ
      exact hQ H5 (e2.trans (e4.trans e5))
    · refine ⟨e2.trans e4, ex_t e4 ha, ?_, _, rfl⟩
      rw [hj2, ← hl]
      exact (if_neg (by rw [show m.hol (lawOf (4 - j) (sgOf sf)) n = false from hb2]; decide)).symm
  · intro a σ H' hp
    obtain ⟨e2, ha, hl, y4, rfl⟩ := hp
    rw [hN, Nat.sub_self] at hl
    refine s_ret ev_c fun H4 e4 => ?_
    rw [← hl] at hQ
    exact hQ H4 (e2.trans e4)

theorem sc__add_rows : FnScope ["rows", "path", "node", "places", "at", "part"] ["rows", "path", "node"] (defScope s__add_rows) := ⟨rfl, rfl, rfl, by decide +kernel, rfl, by decide +kernel, by decide +kernel⟩
theorem step__add_rows {d k : Nat} (D : Df K mg "_add_rows" s__add_rows ["rows", "path", "node"] f fd) (hk1 : 1 ≤ k) (cp : Cl P w K mg base 1 "parts" ["node"] spParts) (cen : mg "enumerate" = none) (cle : mg "len" = none) (cs : Cl P w K mg base k "_add_rows" ["rows", "path", "node"] (spAddRows K d)) : FnG P w K mg base CX0 (k + 1) f fd ["rows", "path", "node"] (spAddRows K (d + 1)) := by
  refine df_ok D sc__add_rows (fun vs H Q E h => by obtain ⟨l, t, p, nd, pt, its, X, rfl, _⟩ := h; rfl) (fun cdv A outer s H vs Q E hG hr h => ?_)
  obtain ⟨l, t, p, nd, pt, its, X, rfl, hT, hsz, hs60, ht, hpt, hits, hR, hX, hQ⟩ := h
  have ndp := sc__add_rows.nd
  refine ⟨_, (pss_cons (ps_set (i := 3) ndp rfl (.inl rfl) (pe_lst pa_nil)) (pss_cons (ps_for PassesOwn.never rfl (pi_enum (by rfl) cen (pa_cons (pe_cl cp hG hr rfl (pa_cons (pv 2) pa_nil) hk1) pa_nil)) (pg_tup rfl (pgs_cons (pg_name (i := 4) ndp rfl (.inl rfl)) (pgs_cons (pg_name (i := 5) ndp rfl (.inl rfl)) pgs_nil)))
        (pss_one (ps_expr (pe_bm PySem.F.plainAttrs_list PySem.F.slot_list_append PySem.F.type_list_append mt_append (pv 3) (pa_cons (pe_cl cs hG hr rfl (pa_cons (pv 0) (pa_cons (pe_op op_catA (pv 1) (pe_tup (pa_cons (pv 4) pa_nil))) (pa_cons (pv 5) pa_nil))) (Nat.le_refl _)) pa_nil))))) (pss_cons (ps_expr (pe_bm PySem.F.plainAttrs_list PySem.F.slot_list_append PySem.F.type_list_append mt_append (pv 0) (pa_cons (pe_tup (pa_cons (pv 1) (pa_cons (pv 2) (pa_cons (pv 3) pa_nil)))) pa_nil))) (pss_one (ps_ret (pe_op op_sub (pe_callB call_len_seq (by rfl) cle PySem.boot_len (pa_cons (pv 0) pa_nil)) pe_int)))))), ?_⟩
  refine q_raw (lst_raw (?_ : tNil _ _ _))
  refine (⟨by show 0 ≤ sizeLine; decide, fun pl npl => ?_⟩ : _ ∧ _)
  have e2 : Ex H (upd H pl (.lst [])) := Ex.new npl
  have hl2 : (upd H pl (.lst [])) pl = some (.lst (natsV [])) := upd_same
  generalize upd H pl (.lst []) = H2 at e2 hl2 ⊢
  dsimp only [List.set]
  refine (ev_var (v := .ref p) rfl) H2 (Ex.refl H2) _ fun H3 e3 => ⟨p, nd, rfl, hT.ex (e2.trans e3), fun lq qs H4 n4 e4 h4 hP => ?_⟩
  have e24 := e3.trans e4
  have e04 := e2.trans e24
  have hl4 := e24 _ _ hl2
  obtain ⟨hPl, hPa⟩ := hP.at
  obtain ⟨ps0, hl0, hlen0, _⟩ := id hR
  have hlr4 := e04 _ _ hl0
  have nlp : l ≠ pl := fun z => by rw [z, npl] at hl0; exact nomatch hl0
  have nql : lq ≠ l := fun z => by rw [z, e3 _ _ (e2 _ _ hl0)] at n4; exact nomatch n4
  have nqp : lq ≠ pl := fun z => by rw [z, e3 _ _ hl2] at n4; exact nomatch n4
  have hlenq : (qs.map V.ref).length = nd.parts.length := by rw [List.length_map, hPl]
  have nX : ¬ X pl := fun z => hX pl z npl
  have hs1 := size_sum nd
  refine ⟨lq, qs.map V.ref, rfl, sq_of h4, for_it (n := (qs.map V.ref).length) walk_enum (fun i σ G => (∀ b o, b ≠ l → b ≠ pl → H4 b = some o → G b = some o) ∧ G pl = some (.lst (natsV ((List.range i).map (plF nd.parts its.length)))) ∧ RowsAt K G l (its ++ rowsP d nd pt its.length i) (fun x => x = pl ∨ X x) ∧ ∃ y4 y5, σ = [some (.ref l), some (.ref t), some (.ref p), some (.ref pl), y4, y5])
    ⟨fun b o _ _ q => q, hl4, ?_, none, none, rfl⟩ (fun i σ G _ h => sq_of (h.1 _ _ nql nqp h4)) ?_ ?_⟩
  · have : its ++ rowsP d nd pt its.length 0 = its := by simp [rowsP]
    rw [this]
    exact (hR.sub fun r h1 h2 h3 => by
      rcases h3 with h3 | h3
      · exact h1 (by rw [h3]; exact npl)
      · exact h2 h3).ex e04
  · intro i x σ G G' hi hp hy
    obtain ⟨bu, hD, hA, y4, y5, rfl⟩ := hp
    obtain ⟨T, x4, x5, rfl, hTn, rfl, h5, h6⟩ := hy
    cases h5
    have h6 : (qs.map V.ref)[i]? = some x5 := h6
    rw [List.getElem?_map] at h6
    obtain ⟨q, hq, rfl⟩ := Option.map_eq_some_iff.mp h6
    obtain ⟨en, hen, hTe⟩ := hPa i q hq
    have hip : i < nd.parts.length := by rw [← hlenq]; exact hi
    have eT : Ex G (upd G T (.tup [.int (i : Nat), .ref q])) := Ex.new hTn
    have hT2 : (upd G T (.tup [.int (i : Nat), .ref q])) T = some (.tup [.int (i : Nat), .ref q]) := upd_same
    generalize upd G T (.tup [.int (i : Nat), .ref q]) = G5 at eT hT2 ⊢
    refine ⟨T, _, rfl, st_of hT2, rfl, _, _, rfl, _, _, rfl, rfl, ?_⟩
    dsimp only [List.set]
    refine (?_ : tBM _ _ _ _ _ _ _ _)
    refine app_raw (i := 3) rfl (eT _ _ hD) (?_ : tCons _ _ _ _ _)
    refine (?_ : tCall _ _ _ _ _ _ _)
    refine ea_at (ev_var rfl) fun G6 e6 => ?_
    refine (?_ : tCons _ _ _ _ _)
    refine (?_ : tOp _ _ _ _ _ _)
    refine op_raw ⟨_, rfl, ?_⟩
    refine (eu_tup (ea_cons (ev_var rfl) ea_nil) (by simp)) G6 (Ex.refl G6) _ fun tp G7 n7 e7 h7 => ?_
    have h2 := sum_take nd.parts i en hen
    have h3 := sum_le nd.parts (i + 1)
    have e57 := eT.trans (e6.trans e7)
    have tkG : TupK H4 G := fun b xs h => bu b _ (fun z => by rw [z, hlr4] at h; exact nomatch h) (fun z => by rw [z, hl4] at h; exact nomatch h) h
    have htG : SqT K G t (pathV pt) := by
      rcases ex_t e04 ht with (h | ⟨o, h⟩) | h
      · exact .inl (.inl (bu _ _ (ne_of h hlr4 fun z => by cases z) (ne_of h hl4 fun z => by cases z) h))
      · exact .inl (.inr ⟨o, bu _ _ (ne_of h hlr4 fun z => by cases z) (ne_of h hl4 fun z => by cases z) h⟩)
      · exact .inr h
    refine cat_at (ex_t e57 htG) (st_of h7) (by simp) (by simp only [pathV, List.length_map, List.length_cons, List.length_nil]; omega) fun tt G8 e8 h8 => ?_
    have e58 := e57.trans e8
    refine ea_at (ev_var rfl) fun G8b e8b => ?_
    have e58b := e58.trans e8b
    have hln : (its ++ rowsP d nd pt its.length i).length = its.length + sumSz (nd.parts.take i) := by rw [List.length_append, rowsP_len hsz i (by omega)]
    refine ⟨l, tt, q, en, pt ++ [i], its ++ rowsP d nd pt its.length i, (fun x => x = pl ∨ X x), rfl, (hTe.tk tkG).ex e58b, by omega, by omega, by rw [pathV, List.map_append]; exact ex_t e8b h8, by rw [List.length_append, List.length_cons, List.length_nil]; omega, by rw [hln]; omega, hA.ex e58b, ?_, fun G9 b9 hA9 => ?_⟩
    · intro x hx
      rcases hx with rfl | hx
      · rw [e58b _ _ hD]
        exact fun z => nomatch z
      · obtain ⟨o, ho⟩ : ∃ o, H x = some o := by
          cases hq : H x with
          | none => exact absurd hq (hX x hx)
          | some o => exact ⟨o, rfl⟩
        by_cases hxl : x = l
        · obtain ⟨psA, hlA, _⟩ := id hA
          rw [hxl, e58b _ _ hlA]
          exact fun z => nomatch z
        · rw [e58b _ _ (bu x o hxl (fun z => nX (by rw [← z]; exact hx)) (e04 _ _ ho))]
          exact fun z => nomatch z
    · have hD9 := b9 _ _ (Ne.symm nlp) (e58b _ _ hD)
      have hval : its.length + sumSz (nd.parts.take i) + en.size - 1 = plF nd.parts its.length i := by
        unfold plF
        rw [h2]
        omega
      refine ⟨pl, natsV ((List.range i).map (plF nd.parts its.length)), _, rfl, rfl, hD9, ?_, ?_⟩
      · simp only [natsV, List.length_map, List.length_range]
        have h33 : nd.parts.length ≤ 3 := by cases nd <;> simp [Nd.parts]
        exact sz_lt (by omega)
      · have hnew : natsV ((List.range i).map (plF nd.parts its.length)) ++ [V.int (((its ++ rowsP d nd pt its.length i).length + en.size - 1 : Nat) : Int)] = natsV ((List.range (i + 1)).map (plF nd.parts its.length)) := by
          rw [List.range_succ, List.map_append, hln, hval]
          simp [natsV]
        rw [hnew]
        have hA9' : RowsAt K G9 l (its ++ rowsP d nd pt its.length (i + 1)) (fun x => x = pl ∨ X x) := by
          rw [rowsP_step hen, ← List.append_assoc, ← hln]
          exact hA9
        refine ⟨fun b o nb nb2 z => ?_, upd_same, hA9'.bu hD9 (Ne.symm nlp) (.inl rfl) (fun b o nb z => by rw [upd_ne nb]; exact z), _, _, rfl⟩
        rw [upd_ne nb2]
        exact b9 _ _ nb (e58b _ _ (bu b o nb nb2 z))
  · intro σ G hp
    obtain ⟨bu, hD, hA, y4, y5, rfl⟩ := hp
    rw [hlenq] at hD hA
    obtain ⟨psA, hlA, hlenA, _⟩ := id hA
    dsimp only
    refine drop_raw (?_ : tBM _ _ _ _ _ _ _ _)
    refine app_raw (i := 0) rfl hlA (?_ : tCons _ _ _ _ _)
    refine ea_atU (eu_tup (ea_cons (ev_var rfl) (ea_cons (ev_var rfl) (ea_cons (ev_var rfl) ea_nil))) (by simp)) fun a G2 na ea ha => ?_
    have hA2 := hA.ex ea
    have hlA2 := ea _ _ hlA
    have tkG : TupK H4 G := fun b xs h => bu b _ (fun z => by rw [z, hlr4] at h; exact nomatch h) (fun z => by rw [z, hl4] at h; exact nomatch h) h
    have htG : SqT K G t (pathV pt) := by
      rcases ex_t e04 ht with (h | ⟨o, h⟩) | h
      · exact .inl (.inl (bu _ _ (ne_of h hlr4 fun z => by cases z) (ne_of h hl4 fun z => by cases z) h))
      · exact .inl (.inr ⟨o, bu _ _ (ne_of h hlr4 fun z => by cases z) (ne_of h hl4 fun z => by cases z) h⟩)
      · exact .inr h
    have hlnA : psA.length = its.length + nd.size - 1 := by
      rw [hlenA, List.length_append, rowsP_len hsz _ (Nat.le_refl _), List.take_length]
      omega
    have hEnd := (hA2.sub (Y := X) fun r _ h1 h2 => h1 (.inr h2)).add hlA2 ha (ex_t ea htG) (((hT.ex e04).tk tkG).ex ea) (ea _ _ hD) nX (Ne.symm nlp)
    rw [List.append_assoc, ← rowsF_end] at hEnd
    refine (⟨l, psA.map V.ref, .ref a, rfl, rfl, hlA2, by rw [List.length_map, hlnA]; exact sz_lt (by omega), ?_⟩)
    have hlE : (upd G2 l (.lst (psA.map V.ref ++ [.ref a]))) l = some (.lst (psA.map V.ref ++ [.ref a])) := upd_same
    have buE : Bu l H (upd G2 l (.lst (psA.map V.ref ++ [.ref a]))) := fun b o nb z => by
      rw [upd_ne nb]
      exact ea _ _ (bu b o nb (fun w => by rw [w, npl] at z; exact nomatch z) (e04 _ _ z))
    generalize upd G2 l (.lst (psA.map V.ref ++ [.ref a])) = G3 at hEnd hlE buE ⊢
    have hlz : (psA.map V.ref ++ [V.ref a]).length = its.length + nd.size := by
      rw [List.length_append, List.length_map, hlnA]
      simp only [List.length_cons, List.length_nil]
      omega
    refine s_ret (ev_op (x := .int ((psA.map V.ref ++ [V.ref a]).length : Nat)) (ev_cb (ea_cons (ev_var rfl) ea_nil) fun H5 e5 Q1 q1 => ⟨l, _, rfl, .inl (sq_of (e5 _ _ hlE)), q1 H5 (Ex.refl H5)⟩) ev_c rv_I0) fun H6 e6 => ?_
    have := hQ H6 (fun b o nb z => e6 _ _ (buE b o nb z)) (hEnd.ex e6)
    rw [hlz]
    have hz : (((its.length + nd.size : Nat) : Int) - 1) = ((its.length + nd.size - 1 : Nat) : Int) := by omega
    rw [hz]
    exact this

theorem sc_rows_of : FnScope ["expression", "rows"] ["expression"] (defScope s_rows_of) := ⟨rfl, rfl, rfl, by decide +kernel, rfl, by decide +kernel, by decide +kernel⟩
theorem ok_rows_of {k : Nat} (D : Df K mg "rows_of" s_rows_of ["expression"] f fd) (cs : Cl P w K mg base k "_add_rows" ["rows", "path", "node"] (spAddRows K 30)) : FnG P w K mg base CX0 (k + 1) f fd ["expression"] (spRows K) := by
  refine df_ok D sc_rows_of (fun vs H Q E h => by obtain ⟨p, nd, X, rfl, _⟩ := h; rfl) (fun cdv A outer s H vs Q E hG hr h => ?_)
  obtain ⟨p, nd, X, rfl, hT, hsz, hX, hQ⟩ := h
  have ndp := sc_rows_of.nd
  refine ⟨_, (pss_cons (ps_set (i := 1) ndp rfl (.inl rfl) (pe_lst pa_nil)) (pss_cons (ps_expr (pe_cl cs hG hr rfl (pa_cons (pv 1) (pa_cons (pe_tup pa_nil) (pa_cons (pv 0) pa_nil))) (Nat.le_refl _))) (pss_one (ps_ret (pv 1))))), ?_⟩
  refine q_raw (lst_raw (?_ : tNil _ _ _))
  refine (⟨by show 0 ≤ sizeLine; decide, fun l nl => ?_⟩ : _ ∧ _)
  have e2 : Ex H (upd H l (.lst [])) := Ex.new nl
  have hl2 : (upd H l (.lst [])) l = some (.lst []) := upd_same
  generalize upd H l (.lst []) = H2 at e2 hl2 ⊢
  try dsimp only [List.set]
  refine drop_raw (?_ : tCall _ _ _ _ _ _ _)
  refine ea_at (ev_var rfl) fun H3 e3 => ?_
  refine (?_ : tCons _ _ _ _ _)
  refine ea_atU (eu_tup ea_nil (by simp)) fun tp H4 n4 e4 h4 => ea_at (ev_var rfl) fun H5 e5 => ?_
  have e25 := e3.trans (e4.trans e5)
  refine ⟨l, tp, p, nd, [], [], X, rfl, hT.ex (e2.trans e25), hsz, by omega, ex_t e5 (st_of h4), by simp only [List.length_nil]; omega, by simp only [List.length_nil]; omega, ⟨[], e25 _ _ hl2, rfl, fun j it h => nomatch h⟩, fun x h => some_ex (e2.trans e25) (hX x h), fun H6 b6 hA => ?_⟩
  refine s_ret (ev_var rfl) fun H7 e7 => hQ l H7 nl (fun b o z => e7 _ _ (b6 b o (fun w => by rw [w, nl] at z; exact nomatch z) (e25 _ _ (e2 _ _ z)))) (hA.ex e7)

theorem sc_kinds_by_name : FnScope ["variables", "row"] ["variables"] (defScope s_kinds_by_name) := ⟨rfl, rfl, rfl, by decide +kernel, rfl, by decide +kernel, by decide +kernel⟩
theorem ok_kinds_by_name (D : Df K mg "kinds_by_name" s_kinds_by_name ["variables"] f fd) : FnG P w K mg base CX0 1 f fd ["variables"] spKBN := by
  refine df_ok D sc_kinds_by_name (fun vs H Q E h => by obtain ⟨l, rows, rfl, _⟩ := h; rfl) (fun cdv A outer s H vs Q E hG hr h => ?_)
  obtain ⟨l, rows, rfl, hV, hz, hnd, hQ⟩ := h
  have ndp := sc_kinds_by_name.nd
  refine ⟨_, (pss_one (ps_ret (pe_dc (own := [("row", 1)]) (g := gName 1) (tt := tYes) rfl ndp (pi_list (pv 0)) (blkOk_by (N := ["variables", "row"]) (sc := defScope s_kinds_by_name) (by decide +kernel)) (fun _ _ _ _ _ => pg_name (i := 1) ndp rfl (Or.inl rfl)) (fun _ _ _ _ _ => pts_nil) (fun _ _ _ _ _ => pe_ix (ix_tup : IxR _ (rIxT K)) (pv 1) pe_int (fun _ _ => rfl)) (fun _ _ _ _ _ => pe_ix (ix_tup : IxR _ (rIxT K)) (pv 1) pe_int (fun _ _ => rfl))))), ?_⟩
  obtain ⟨ps, hl, hlen, hrow⟩ := id hV
  have hpl : (ps.map V.ref).length = rows.length := by rw [List.length_map, hlen]
  refine ret_raw (?_ : tDc _ _ _ _ _ _ _ _ _)
  refine ⟨_, rfl, l, rfl, ⟨_, sq_of hl⟩, fun Dl nD => ?_⟩
  have nlD : l ≠ Dl := fun z => by rw [← z, hl] at nD; exact nomatch nD
  have exH : ∀ {G : Hp}, Bu Dl H G → Ex H G := fun bu b o q => bu b o (fun z => by rw [z, nD] at q; exact nomatch q) q
  refine dc_walk (n := (ps.map V.ref).length) walk_list (fun i G => Bu Dl H G ∧ G Dl = some (.dK (kindL (rows.take i)))) ⟨fun b o nb q => by rw [upd_ne nb]; exact q, by rw [upd_same]; rfl⟩ (fun i G _ h => sq_of (h.1 _ _ nlD hl)) ?_ ?_
  · intro i x G G' hi hp hy
    obtain ⟨bu, hD⟩ := hp
    obtain ⟨rfl, hx⟩ := hy
    rw [List.getElem?_map] at hx
    obtain ⟨q, hq, rfl⟩ := Option.map_eq_some_iff.mp hx
    have hir : i < rows.length := by rw [← hpl]; exact hi
    have hri : rows[i]? = some rows[i] := List.getElem?_eq_getElem hir
    obtain ⟨p2, q1, q2⟩ := hrow i rows[i] hri
    rw [hq] at q1
    cases q1
    have hnew : rows[i].name ∉ (rows.take i).map Row.name := fun hm => by
      rw [List.map_take] at hm
      obtain ⟨j, hj1, hj2⟩ := List.getElem_of_mem hm
      rw [List.length_take] at hj1
      rw [List.getElem_take] at hj2
      have := (List.getElem_inj (i := j) (j := i) (h₀ := by omega) (h₁ := by rw [List.length_map]; exact hir) hnd).mp (by rw [hj2, List.getElem_map])
      omega
    have htk : rows.take (i + 1) = rows.take i ++ [rows[i]] := by
      rw [List.take_add_one, hri]
      rfl
    rw [htk, ← kind_put hnew]
    have q3 := exH bu _ _ q2
    refine (⟨rfl, ?_⟩ : _ ∧ _)
    dsimp only [tYes, List.set]
    rw [if_pos rfl]
    refine (ev_op (ev_var rfl) ev_c (rv_ixT (st_of q3) (atI_nat (j := 0) rfl))) G' (Ex.refl G') _ fun G1 e1 => (ev_op (ev_var rfl) ev_c (rv_ixT (st_of (e1 _ _ q3)) (atI_nat (j := 1) rfl))) G1 (Ex.refl G1) _ fun G2 e2 => ⟨_, .inr rows[i].name, rfl, (e1.trans e2) _ _ hD, ?_, fun b o nb z => ?_, upd_same⟩
    · unfold kindL
      rw [List.length_map, List.length_take]
      exact sz_lt (by omega)
    · rw [upd_ne nb]
      exact (e1.trans e2) _ _ (bu b o nb z)
  · intro G hp
    obtain ⟨bu, hD⟩ := hp
    rw [hpl, List.take_length] at hD
    exact hQ Dl G nD (exH bu) hD

theorem sc_own_kind : FnScope ["model", "named", "node", "of_parts", "word"] ["model", "named", "node", "of_parts"] (defScope s_own_kind) := ⟨rfl, rfl, rfl, by decide +kernel, rfl, by decide +kernel, by decide +kernel⟩
theorem ok_own_kind (D : Df K mg "own_kind" s_own_kind ["model", "named", "node", "of_parts"] f fd) (cl : Cl P w K mg base 4 "literal_kind" ["model", "number", "suffix"] (PV (preLit K))) (cp : Cl P w K mg base 2 "promoted_kind" ["model", "kind"] (PV (preMK K fun m k => (m.prom k).v))) (cc : Cl P w K mg base 3 "common_kind" ["model", "first", "second"] (PV (preMKK K fun m k l => (m.com k l).v))) : FnG P w K mg base CX0 5 f fd ["model", "named", "node", "of_parts"] (PV (preOwn K)) := by
  refine df_ok D sc_own_kind (pre_len1 fun vs H v h => by obtain ⟨sch, nm, q, ol, m, rows, nd, rfl, _⟩ := h; rfl) (fun cdv A outer s H vs Q E hG hr h => ?_)
  obtain ⟨v, ⟨sch, nm, q, ol, m, rows, nd, rfl, hm, ho, hn, hT, hk, hl, rfl⟩, hQ⟩ := h
  have ndp := sc_own_kind.nd
  have hu := hu_of hr
  refine ⟨_, (pss_cons (ps_set (i := 4) ndp rfl (.inl rfl) (pe_ix ix_tup (pv 2) pe_int (fun _ _ => rfl))) (pss_cons (ps_if (pt_cmpR op_eq (pv 4) pe_str (nomark _)) (pss_one (ps_ret (pe_dget hu (pv 1) (pe_ix ix_tup (pv 2) pe_int (fun _ _ => rfl)) (fun _ _ => rfl)))) pss_nil) (pss_cons (ps_if (pt_cmpR op_eq (pv 4) pe_str (nomark _)) (pss_one (ps_ret (pe_cl cl hG hr rfl (pa_cons (pv 0) (pa_cons (pe_ix ix_tup (pv 2) pe_int (fun _ _ => rfl)) (pa_cons (pe_ix ix_tup (pv 2) pe_int (fun _ _ => rfl)) pa_nil)))))) pss_nil) (pss_cons (ps_if (pt_cmpR op_eq (pv 4) pe_str (nomark _)) (pss_one (ps_ret (pe_ix ix_tup (pv 2) pe_int (fun _ _ => rfl)))) pss_nil) (pss_cons (ps_if (pt_cmpR op_in_seq (pv 4) (pe_tup (pa_cons pe_str (pa_cons pe_str (pa_cons pe_str pa_nil)))) (by rfl)) (pss_one (ps_ret (pe_cl cp hG hr rfl (pa_cons (pv 0) (pa_cons (pe_ix ix_list (pv 3) pe_int (fun _ _ => rfl)) pa_nil))))) pss_nil) (pss_cons (ps_if (pt_cmpR op_in_seq (pv 4) (pe_tup (pa_cons pe_str (pa_cons pe_str (pa_cons pe_str pa_nil)))) (by rfl)) (pss_one (ps_ret pe_non)) pss_nil) (pss_one (ps_ret (pe_cl cc hG hr rfl (pa_cons (pv 0) (pa_cons (pe_ix ix_list (pv 3) (pe_un un_neg pe_int) (fun _ _ => rfl)) (pa_cons (pe_ix ix_list (pv 3) (pe_un un_neg pe_int) (fun _ _ => rfl)) pa_nil)))))))))))), ?_⟩
  obtain ⟨rest, hd⟩ := hT.head
  refine q_asg (v := .str nd.word) (ev_op (ev_var rfl) ev_c (rv_ixT (st_of hd) (atI_nat (j := 0) rfl))) fun H1 e1 => ?_
  dsimp only [List.set]
  refine q_when (b := decide (V.str nd.word = V.str "var")) (et_test (ev_op (ev_var rfl) ev_c (rv_eq rfl))) (fun hb H2 e2 => ?_) (fun hb H2 e2 => ?_)
  · obtain ⟨x, rfl⟩ := word_var (V.str.inj (of_decide_eq_true hb))
    have e12 := e1.trans e2
    obtain ⟨k, hkx⟩ := hk.2.2 x (List.mem_cons_self ..)
    have hp : H2 q = some (.tup [.str "var", .str x]) := e12 _ _ hT
    refine s_ret (ev_dgetV (ev_var rfl) (ev_op (ev_var rfl) ev_c (rv_ixT (st_of hp) (atI_nat (j := 1) rfl))) (e12 _ _ hn) (by rw [kind_val, hkx]; rfl)) fun H3 e3 => ?_
    have := hQ H3 (e12.trans e3)
    unfold ownV Nd.own at this
    rw [hkx] at this
    exact this
  have n1 : nd.word ≠ "var" := fun z => of_decide_eq_false hb (by rw [z])
  refine q_when (b := decide (V.str nd.word = V.str "lit")) (et_test (ev_op (ev_var rfl) ev_c (rv_eq rfl))) (fun hb H3 e3 => ?_) (fun hb H3 e3 => ?_)
  · obtain ⟨n, sf, rfl⟩ := word_lit (V.str.inj (of_decide_eq_true hb))
    have e13 := (e1.trans e2).trans e3
    have hp : H3 q = some (.tup [.str "lit", .int n, .str sf]) := e13 _ _ hT
    exact s_ret (ev_call (ea_cons (ev_var rfl) (ea_cons (ev_op (ev_var rfl) ev_c (rv_ixT (st_of hp) (atI_nat (j := 1) rfl))) (ea_cons (ev_op (ev_var rfl) ev_c (rv_ixT (st_of hp) (atI_nat (j := 2) rfl))) ea_nil))) (spLit (hm.ex e13) ho hk.1.2.2)) fun H4 e4 => hQ H4 (e13.trans e4)
  have n2 : nd.word ≠ "lit" := fun z => of_decide_eq_false hb (by rw [z])
  refine q_when (b := decide (V.str nd.word = V.str "cast")) (et_test (ev_op (ev_var rfl) ev_c (rv_eq rfl))) (fun hb H4 e4 => ?_) (fun hb H4 e4 => ?_)
  · obtain ⟨k, e, rfl⟩ := word_cast (V.str.inj (of_decide_eq_true hb))
    have e14 := ((e1.trans e2).trans e3).trans e4
    obtain ⟨q2, hp, _⟩ := id hT
    exact s_ret (ev_op (ev_var rfl) ev_c (rv_ixT (st_of (e14 _ _ hp)) (atI_nat (j := 1) rfl))) fun H5 e5 => hQ H5 (e14.trans e5)
  have n3 : nd.word ≠ "cast" := fun z => of_decide_eq_false hb (by rw [z])
  have e14 := ((e1.trans e2).trans e3).trans e4
  refine q_when (et_B (ev_inU (xs := [.str "neg", .str "shl", .str "shr"]) (ev_var rfl) (eu_tup (ea_cons ev_c (ea_cons ev_c (ea_cons ev_c ea_nil))) (by simp)) rfl rfl)) (fun hb H5 e5 => ?_) (fun hb H5 e5 => ?_)
  · obtain ⟨e, hp, he, hown⟩ := own_prom hk.1 hb
    have e15 := e14.trans e5
    obtain ⟨k, hke⟩ := (hk.part (e := e) (by rw [hp]; exact List.mem_cons_self ..)).some (isE_hasK he)
    have hl5 := e15 _ _ hl
    rw [hp] at hl5
    have hv : ownV m rows e = k.v := by unfold ownV; rw [hke]; rfl
    refine s_ret (ev_call (ea_cons (ev_var rfl) (ea_cons (ev_op (ev_var rfl) ev_c (rv_ixL (sq_of hl5) (by rw [← hv]; exact atI_nat (j := 0) rfl))) ea_nil)) (spMK (k := k) (hm.ex e15) ho)) fun H6 e6 => ?_
    have := hQ H6 (e15.trans e6)
    unfold ownV at this
    rw [hown, hke] at this
    exact this
  refine q_when (et_B (ev_inU (xs := [.str "not", .str "and", .str "or"]) (ev_var rfl) (eu_tup (ea_cons ev_c (ea_cons ev_c (ea_cons ev_c ea_nil))) (by simp)) rfl rfl)) (fun hb2 H6 e6 => ?_) (fun hb2 H6 e6 => ?_)
  · refine s_ret ev_c fun H7 e7 => ?_
    have := hQ H7 (((e14.trans e5).trans e6).trans e7)
    unfold ownV at this
    rw [own_no hb2] at this
    exact this
  obtain ⟨e, f2, hp, he, hf, hown⟩ := own_comb hk.1 n1 n2 n3 hb hb2
  have e16 := (e14.trans e5).trans e6
  have hpe : e ∈ nd.parts ∧ f2 ∈ nd.parts := by
    rcases hp with hp | ⟨c, hp⟩ <;> rw [hp] <;> simp
  obtain ⟨k, hke⟩ := (hk.part hpe.1).some (isE_hasK he)
  obtain ⟨l2, hlf⟩ := (hk.part hpe.2).some (isE_hasK hf)
  have ve : ownV m rows e = k.v := by unfold ownV; rw [hke]; rfl
  have vf : ownV m rows f2 = l2.v := by unfold ownV; rw [hlf]; rfl
  have a2 : atI (nd.parts.map (ownV m rows)) (-2) = some k.v ∧ atI (nd.parts.map (ownV m rows)) (-1) = some l2.v := by
    rcases hp with hp | ⟨c, hp⟩
    · rw [hp, ← ve, ← vf]
      exact ⟨rfl, rfl⟩
    · rw [hp, ← ve, ← vf]
      exact ⟨rfl, rfl⟩
  refine s_ret (ev_call (ea_cons (ev_var rfl) (ea_cons (ev_op (ev_var rfl) (ev_un ev_c ru_neg) (rv_ixL (sq_of (e16 _ _ hl)) a2.1)) (ea_cons (ev_op (ev_var rfl) (ev_un ev_c ru_neg) (rv_ixL (sq_of (e16 _ _ hl)) a2.2)) ea_nil))) (spMKK (hm.ex e16) ho)) fun H7 e7 => ?_
  have := hQ H7 (e16.trans e7)
  unfold ownV at this
  rw [hown, hke, hlf] at this
  exact this

theorem sc_kinds_of : FnScope ["model", "named", "rows", "kinds", "_", "node", "places", "at"] ["model", "named", "rows"] (defScope s_kinds_of) := ⟨rfl, rfl, rfl, by decide +kernel, rfl, by decide +kernel, by decide +kernel⟩
theorem ok_kinds_of (D : Df K mg "kinds_of" s_kinds_of ["model", "named", "rows"] f fd) (co : Cl P w K mg base 5 "own_kind" ["model", "named", "node", "of_parts"] (PV (preOwn K))) : FnG P w K mg base CX0 6 f fd ["model", "named", "rows"] (spKinds K) := by
  refine df_ok D sc_kinds_of (fun vs H Q E h => by obtain ⟨sch, nm, l, m, rows, its, X, rfl, _⟩ := h; rfl) (fun cdv A outer s H vs Q E hG hr h => ?_)
  obtain ⟨sch, nm, l, m, rows, its, X, rfl, hm, ho, hn, hR, hok, hall, hz, hQ⟩ := h
  have ndp := sc_kinds_of.nd
  refine ⟨_, (pss_cons (ps_set (i := 3) ndp rfl (.inr rfl) (pe_lst pa_nil)) (pss_cons (ps_for PassesOwn.never rfl (pi_list (pv 2)) (pg_tup rfl (pgs_cons (pg_name (i := 4) ndp rfl (.inl rfl)) (pgs_cons (pg_name (i := 5) ndp rfl (.inl rfl)) (pgs_cons (pg_name (i := 6) ndp rfl (.inl rfl)) pgs_nil))))
        (pss_one (ps_expr (pe_bm PySem.F.plainAttrs_list PySem.F.slot_list_append PySem.F.type_list_append mt_append (pv 3) (pa_cons (pe_cl co hG hr rfl (pa_cons (pv 0) (pa_cons (pv 1) (pa_cons (pv 5) (pa_cons (pe_lc (own := [("at", 7)]) (g := gName 7) (tt := tYes) rfl ndp (pi_list (pv 6)) (blkOk_by (N := ["model", "named", "rows", "kinds", "_", "node", "places", "at"]) (sc := defScope s_kinds_of) (by decide +kernel)) (fun _ _ _ _ _ => pg_name (i := 7) ndp rfl (Or.inl rfl)) (fun _ _ _ _ _ => pts_nil) (fun _ _ _ _ _ => pe_ix (ix_list : IxR _ (rIxL K)) (pv 3) (pv 7) (fun _ _ => rfl))) pa_nil))))) pa_nil))))) (pss_one (ps_ret (pv 3))))), ?_⟩
  obtain ⟨ps, hl, hlen, hrow⟩ := id hR
  refine q_raw (lst_raw (?_ : tNil _ _ _))
  refine (⟨by show 0 ≤ sizeLine; decide, fun kl nkl => ?_⟩ : _ ∧ _)
  have e1 : Ex H (upd H kl (.lst [])) := Ex.new nkl
  have hk1 : (upd H kl (.lst [])) kl = some (.lst []) := upd_same
  generalize upd H kl (.lst []) = H1 at e1 hk1 ⊢
  dsimp only [List.set]
  have nlk : l ≠ kl := fun z => by rw [z, nkl] at hl; exact nomatch hl
  have exH : ∀ {G : Hp}, Bu kl H1 G → Ex H G := fun bu b o q => bu b o (fun z => by rw [z, nkl] at q; exact nomatch q) (e1 _ _ q)
  have hpl : (ps.map V.ref).length = its.length := by rw [List.length_map, hlen]
  refine q_forL (K := K) (xs := ps.map V.ref) (a := l) (ev_var rfl) (sq_of (e1 _ _ hl)) (fun i σ G => Bu kl H1 G ∧ G kl = some (.lst ((its.take i).map fun it => ownV m rows it.2.1)) ∧ ∃ y4 y5 y6, σ = [some (.ref sch), some (.ref nm), some (.ref l), some (.ref kl), y4, y5, y6, none]) (fun G e => ⟨Bu.of e, e _ _ hk1, none, none, none, rfl⟩) (fun i σ G _ h => sq_of (h.1 _ _ nlk (e1 _ _ hl))) ?_ ?_
  · intro i x σ G hx hp
    obtain ⟨bu, hD, y4, y5, y6, rfl⟩ := hp
    have eG := exH bu
    rw [List.getElem?_map] at hx
    obtain ⟨p, hpq, rfl⟩ := Option.map_eq_some_iff.mp hx
    have hi : i < its.length := by
      have := (List.getElem?_eq_some_iff.mp hpq).1
      rw [hlen] at this
      exact this
    have hit : its[i]? = some its[i] := List.getElem?_eq_getElem hi
    obtain ⟨p2, t, q, r, z1, z2, z3, z4, z5, z6, z7⟩ := hrow i its[i] hit
    rw [hpq] at z1
    cases z1
    have hko := hall its[i] (List.getElem_mem _)
    have hro := hok i its[i].1 its[i].2.1 its[i].2.2 hit
    have htk : its.take (i + 1) = its.take i ++ [its[i]] := by
      rw [List.take_add_one, hit]
      rfl
    generalize its[i] = it at hit z2 z3 z4 z5 hko hro htk
    obtain ⟨hpln, hpat⟩ := hro
    have h33 : it.2.1.parts.length ≤ 3 := by cases it.2.1 <;> simp [Nd.parts]
    refine ⟨p, _, rfl, st_of (eG _ _ z2), rfl, _, _, rfl, _, _, rfl, _, _, rfl, rfl, ?_⟩
    dsimp only [List.set]
    refine (?_ : tBM _ _ _ _ _ _ _ _)
    refine app_raw (i := 3) rfl hD (?_ : tCons _ _ _ _ _)
    refine (?_ : tCall _ _ _ _ _ _ _)
    refine ea_at (ev_var rfl) fun G2 e2 => ea_at (ev_var rfl) fun G3 e3 => ea_at (ev_var rfl) fun G4 e4 => ?_
    have e24 := (e2.trans e3).trans e4
    refine (?_ : tCons _ _ _ _ _)
    refine ea_atL (el_lcLA (K := K) (xs := natsV it.2.2) (fun c => ownV m rows (it.2.1.parts.getD c (.lit 0 ""))) (ev_var rfl) (sq_of (e24 _ _ (eG _ _ z5))) (by rw [natsV, List.length_map, hpln]; omega) (fun y => rfl) (fun c y G5 e5 hc => ?_)) fun ol G6 n6 e6 h6 => ?_
    · unfold natsV at hc
      rw [List.getElem?_map] at hc
      obtain ⟨x0, hx0, rfl⟩ := Option.map_eq_some_iff.mp hc
      have hci : c < it.2.1.parts.length := by
        rw [← hpln]
        exact (List.getElem?_eq_some_iff.mp hx0).1
      obtain ⟨x1, ptx, plx, a1, a2, a3⟩ := hpat c it.2.1.parts[c] (List.getElem?_eq_getElem hci)
      rw [hx0] at a1
      cases a1
      refine ev_op (ev_var rfl) (ev_var rfl) (rv_ixL (sq_of (e5 _ _ (e24 _ _ hD))) (atI_nat ?_))
      rw [List.getElem?_map, List.getElem?_take, if_pos a2, a3]
      have : it.2.1.parts.getD c (.lit 0 "") = it.2.1.parts[c] := by
        rw [List.getD_eq_getElem?_getD, List.getElem?_eq_getElem hci]
        rfl
      rw [this]
      rfl
    have hol : G6 ol = some (.lst (it.2.1.parts.map (ownV m rows))) := by
      rw [h6]
      have : (natsV it.2.2).length = it.2.1.parts.length := by rw [natsV, List.length_map, hpln]
      rw [this, given_all it.2.1.parts (ownV m rows) (.lit 0 "")]
    have e26 := e24.trans e6
    refine ⟨ownV m rows it.2.1, ⟨sch, nm, q, ol, m, rows, it.2.1, rfl, hm.ex (eG.trans e26), ho, (eG.trans e26) _ _ hn, z4.ex (eG.trans e26), hko, hol, rfl⟩, fun G7 e7 => ?_⟩
    refine ⟨kl, _, ownV m rows it.2.1, rfl, rfl, (e26.trans e7) _ _ hD, ?_, fun b o nb z => ?_, ?_, _, _, _, rfl⟩
    · rw [List.length_map, List.length_take]
      exact sz_lt (by omega)
    · rw [upd_ne nb]
      exact (e26.trans e7) _ _ (bu b o nb z)
    · rw [upd_same, htk, List.map_append]
      rfl
  · intro σ G hp
    obtain ⟨bu, hD, y4, y5, y6, rfl⟩ := hp
    rw [hpl, List.take_length] at hD
    exact s_ret (ev_var rfl) fun G2 e2 => hQ kl G2 nkl ((exH bu).trans e2) (e2 _ _ hD)

theorem sc_refusal : FnScope ["model", "variables", "expression", "name", "kind", "low", "high", "path", "node"] ["model", "variables", "expression"] (defScope s_refusal) := ⟨rfl, rfl, rfl, by decide +kernel, rfl, by decide +kernel, by decide +kernel⟩
theorem ok_refusal {k : Nat} {e0 : Addr} (D : Df K mg "refusal" s_refusal ["model", "variables", "expression"] f fd) (hk : 4 ≤ k) (ch : Cl P w K mg base 3 "is_held" ["model", "kind", "number"] (PV (preMKI K fun m k i => .bl (decide (m.low k ≤ i ∧ i ≤ m.high k))))) (cl : Cl P w K mg base 4 "literal_kind" ["model", "number", "suffix"] (PV (preLit K)))
    (ca : Cd P w K mg base k "all_nodes" ["expression", "path"] [.ref e0] (spAll K 30)) (he0 : ∀ H, SqT K H e0 []) : FnG P w K mg base CX0 (k + 1) f fd ["model", "variables", "expression"] (spRef K) := by
  refine df_ok D sc_refusal (fun vs H Q E h => by obtain ⟨sch, l, p, m, rows, nd, rfl, _⟩ := h; rfl) (fun cdv A outer s H vs Q E hG hr h => ?_)
  obtain ⟨sch, l, p, m, rows, nd, rfl, hm, ho, hV, hT, hw, hsz, hQ⟩ := h
  have ndp := sc_refusal.nd
  have k3 : 3 ≤ k := by omega
  refine ⟨_, (pss_cons (ps_for PassesOwn.never rfl (pi_list (pv 1)) (pg_tup rfl (pgs_cons (pg_name (i := 3) ndp rfl (.inl rfl)) (pgs_cons (pg_name (i := 4) ndp rfl (.inl rfl)) (pgs_cons (pg_name (i := 5) ndp rfl (.inl rfl)) (pgs_cons (pg_name (i := 6) ndp rfl (.inl rfl)) pgs_nil)))))
        (pss_one (ps_if (PW.pt (pw_or (pt_not (pt_val (pe_cl ch hG hr rfl (pa_cons (pv 0) (pa_cons (pv 4) (pa_cons (pv 5) pa_nil))) k3))) (pw_or1 (pt_not (pt_val (pe_cl ch hG hr rfl (pa_cons (pv 0) (pa_cons (pv 4) (pa_cons (pv 6) pa_nil))) k3)))))) (pss_one (ps_ret (pe_tup (pa_cons pe_str (pa_cons (pv 3) pa_nil))))) pss_nil))) (pss_cons (ps_for PassesOwn.never rfl (pi_list (pe_cd ca hG hr rfl (pa_cons (pv 2) pa_nil) (Nat.le_refl _))) (pg_tup rfl (pgs_cons (pg_name (i := 7) ndp rfl (.inl rfl)) (pgs_cons (pg_name (i := 8) ndp rfl (.inl rfl)) pgs_nil)))
        (pss_one (ps_if (PW.pt (pw_and (pt_cmpR op_eq (pe_ix ix_tup (pv 8) pe_int (fun _ _ => rfl)) pe_str (nomark _)) (pw_and1 (pt_cmpR op_isN (pe_cl cl hG hr rfl (pa_cons (pv 0) (pa_cons (pe_ix ix_tup (pv 8) pe_int (fun _ _ => rfl)) (pa_cons (pe_ix ix_tup (pv 8) pe_int (fun _ _ => rfl)) pa_nil))) hk) pe_non (nomark _))))) (pss_one (ps_ret (pe_tup (pa_cons pe_str (pa_cons (pv 7) pa_nil))))) pss_nil))) (pss_one (ps_ret pe_non)))), ?_⟩
  obtain ⟨ps, hl, hlen, hrow⟩ := id hV
  have isN : ∀ {σ : L2.St} {H : Hp} {te : TE} {x : V}, Ev te σ H x → EvT (tTest (tOp (fun x y H Q => y = .non ∧ Q (.bl (decide (x = .non))) H) te (tC .non))) σ H (decide (x = .non)) := fun h => et_test (ev_op h ev_c fun H1 _ Q q => ⟨rfl, q H1 (Ex.refl H1)⟩)
  refine (?_ : tFor _ _ _ _ _ _)
  refine ⟨_, rfl, l, rfl, ⟨_, sq_of hl⟩, for_list (xs := ps.map V.ref) (fun i σ G => Ex H G ∧ (∀ j w, j < i → rows[j]? = some w → m.rowOk w = true) ∧ ∃ y3 y4 y5 y6, σ = [some (.ref sch), some (.ref l), some (.ref p), y3, y4, y5, y6, none, none]) ⟨Ex.refl H, fun j w h => absurd h (Nat.not_lt_zero _), none, none, none, none, rfl⟩ (fun i σ G _ h => ex_l h.1 (sq_of hl)) ?_ ?_⟩
  · intro i x σ G hx hp
    obtain ⟨e, hok, y3, y4, y5, y6, rfl⟩ := hp
    rw [List.getElem?_map] at hx
    obtain ⟨q, hq, rfl⟩ := Option.map_eq_some_iff.mp hx
    have hi : i < rows.length := by
      have := (List.getElem?_eq_some_iff.mp hq).1
      rw [hlen] at this
      exact this
    have hri : rows[i]? = some rows[i] := List.getElem?_eq_getElem hi
    obtain ⟨p2, q1, q2⟩ := hrow i rows[i] hri
    rw [hq] at q1
    cases q1
    generalize rows[i] = wr at hri q2
    refine ⟨q, _, rfl, st_of (e _ _ q2), rfl, _, _, rfl, _, _, rfl, _, _, rfl, _, _, rfl, rfl, ?_⟩
    dsimp only [List.set]
    refine s_when (et_or (et_not (et_B (ev_call (ea_cons (ev_var rfl) (ea_cons (ev_var rfl) (ea_cons (ev_var rfl) ea_nil))) (spMKI (hm.ex e) ho)))) (fun _ => et_not (et_B (ev_call (ea_cons (ev_var rfl) (ea_cons (ev_var rfl) (ea_cons (ev_var rfl) ea_nil))) (spMKI (hm.ex e) ho))))) (fun hb G1 e1 => ?_) (fun hb G1 e1 => ?_)
    · refine s_retU (eu_tup (ea_cons ev_c (ea_cons (ev_var rfl) ea_nil)) (by simp)) fun a G2 n2 e2 h2 => hQ _ G2 (e.trans (e1.trans e2)) ?_
      have hf : admV m rows = some wr.name := by
        unfold admV
        rw [find_at hri (show (!m.rowOk wr) = true by rw [← hb]; exact Bool.not_and ..) fun j y hj hy => by rw [hok j y hj hy]; rfl]
        rfl
      unfold admD
      rw [hf]
      exact .tup (st_of h2) (.cons (.str _) (.cons (.str _) .nil))
    · refine ⟨e.trans e1, fun j y hj hy => ?_, _, _, _, _, rfl⟩
      rcases Nat.lt_or_ge j i with h | h
      · exact hok j y h hy
      · have : j = i := by omega
        subst this
        rw [hri] at hy
        cases hy
        have hb2 : (!m.rowOk wr) = false := by rw [← hb]; exact Bool.not_and ..
        cases hx : m.rowOk wr with
        | true => rfl
        | false => rw [hx] at hb2; exact nomatch hb2
  intro σ G hp
  obtain ⟨e, hok, y3, y4, y5, y6, rfl⟩ := hp
  have hf : admV m rows = none := by
    have h0 : rows.find? (fun w => !m.rowOk w) = none := find_no fun j y hy => by
      rw [hok j y (by rw [List.length_map, hlen]; exact (List.getElem?_eq_some_iff.mp hy).1) hy]
      rfl
    unfold admV
    rw [h0]
    rfl
  have hQ2 : ∀ v H', Ex H H' → Dp K H' v (match nd.bad m with | some q => .tuple [.str "literal", pathD ([] ++ q)] | none => .none) → Q v H' := fun v H' e h => hQ v H' e (by unfold admD; rw [hf]; exact h)
  have hfa := find_all (m := m) 30 nd [] hw hsz
  dsimp only
  refine (?_ : tFor _ _ _ _ _ _)
  refine (ev_var (v := .ref p) rfl) G (Ex.refl G) _ fun G1 e1 => ⟨p, e0, nd, [], rfl, hT.ex (e.trans e1), hsz, by omega, he0 G1, by simp only [List.length_nil]; omega, fun la G2 n2 e2 hA => ?_⟩
  have e02 := e.trans (e1.trans e2)
  obtain ⟨as, ha, hal, hai⟩ := hA
  refine ⟨la, rfl, ⟨_, sq_of ha⟩, for_list (xs := as.map V.ref) (fun i σ G' => Ex G2 G' ∧ (∀ j it, j < i → (allF 30 nd [])[j]? = some it → isBad m it = false) ∧ ∃ y7 y8, σ = [some (.ref sch), some (.ref l), some (.ref p), y3, y4, y5, y6, y7, y8]) ⟨Ex.refl G2, fun j w h => absurd h (Nat.not_lt_zero _), none, none, rfl⟩ (fun i σ G' _ h => ex_l h.1 (sq_of ha)) ?_ ?_⟩
  · intro i x σ G' hx hp
    obtain ⟨e3, hno, y7, y8, rfl⟩ := hp
    rw [List.getElem?_map] at hx
    obtain ⟨q, hq, rfl⟩ := Option.map_eq_some_iff.mp hx
    have hi : i < (allF 30 nd []).length := by
      have := (List.getElem?_eq_some_iff.mp hq).1
      rw [hal] at this
      exact this
    have hri : (allF 30 nd [])[i]? = some (allF 30 nd [])[i] := List.getElem?_eq_getElem hi
    have hwi := all_wf 30 nd [] hw _ (List.getElem_mem hi)
    obtain ⟨p2, t2, q2, z1, z2, z3, z4⟩ := hai i _ hri
    rw [hq] at z1
    cases z1
    generalize (allF 30 nd [])[i] = it at hri hwi z3 z4
    obtain ⟨pth, en⟩ := it
    have z3 : SqT K G2 t2 (pathV pth) := z3
    have z4 : TreeAt G2 q2 en := z4
    have hwi : en.wf := hwi
    refine ⟨q, _, rfl, st_of (e3 _ _ z2), rfl, _, _, rfl, _, _, rfl, rfl, ?_⟩
    dsimp only [List.set]
    obtain ⟨rest, hd⟩ := z4.head
    have hd' := e3 _ _ hd
    rcases word_not en with ⟨n, sf, rfl⟩ | hnl
    · have hp' : G' q2 = some (.tup [.str "lit", .int n, .str sf]) := e3 _ _ z4
      refine s_when (et_and (a := true) (et_is (et_test (ev_op (ev_op (ev_var rfl) ev_c (rv_ixT (st_of hd') (atI_nat (j := 0) rfl))) ev_c (rv_eq rfl))) (decide_eq_true rfl)) (fun _ => isN (x := optV (m.lit n sf)) (ev_call (ea_cons (ev_var rfl) (ea_cons (ev_op (ev_var rfl) ev_c (rv_ixT (st_of hp') (atI_nat (j := 1) rfl))) (ea_cons (ev_op (ev_var rfl) ev_c (rv_ixT (st_of hp') (atI_nat (j := 2) rfl))) ea_nil))) (spLit (hm.ex (e02.trans e3)) ho hwi.2.2)))) (fun hb G3 e4 => ?_) (fun hb G3 e4 => ?_)
      · have hbn : m.lit n sf = none := by
          cases hx : m.lit n sf with
          | none => rfl
          | some kd => rw [hx] at hb; cases kd <;> exact absurd hb (by decide)
        refine s_retU (eu_tup (ea_cons ev_c (ea_cons (ev_var rfl) ea_nil)) (by simp)) fun a G4 n4 e5 h4 => hQ2 _ G4 (e02.trans (e3.trans (e4.trans e5))) ?_
        have hbd : isBad m (pth, .lit n sf) = true := isBad_lit.mpr ⟨n, sf, rfl, hbn⟩
        rw [find_at hri hbd fun j y hj hy => hno j y hj hy] at hfa
        cases hbad : nd.bad m with
        | none => rw [hbad] at hfa; exact nomatch hfa
        | some qq =>
          rw [hbad] at hfa
          have hfa : pth = [] ++ qq := Option.some.inj hfa
          dsimp only
          rw [← hfa]
          exact .tup (st_of h4) (.cons (.str _) (.cons (path_dp (ex_t (e3.trans (e4.trans e5)) z3)) .nil))
      · refine ⟨e3.trans e4, fun j y hj hy => ?_, _, _, rfl⟩
        rcases Nat.lt_or_ge j i with h | h
        · exact hno j y h hy
        · have : j = i := by omega
          subst this
          rw [hri] at hy
          cases hy
          cases hx : m.lit n sf with
          | none => rw [hx] at hb; exact absurd hb (by decide)
          | some kd => show (m.lit n sf).isNone = false; rw [hx]; rfl
    · refine s_when (b := false) (et_is (et_and (a := false) (b := false) (et_is (et_test (ev_op (ev_op (ev_var rfl) ev_c (rv_ixT (st_of hd') (atI_nat (j := 0) rfl))) ev_c (rv_eq rfl))) (decide_eq_false fun z => hnl (V.str.inj z))) (fun z => nomatch z)) rfl) (fun z => nomatch z) (fun _ G3 e4 => ⟨e3.trans e4, fun j y hj hy => ?_, _, _, rfl⟩)
      rcases Nat.lt_or_ge j i with h | h
      · exact hno j y h hy
      · have : j = i := by omega
        subst this
        rw [hri] at hy
        cases hy
        cases hx : isBad m (pth, en) with
        | false => rfl
        | true =>
          obtain ⟨a, b, h1, _⟩ := isBad_lit.mp hx
          rw [h1] at hnl
          exact absurd rfl hnl
  · intro σ G' hp
    obtain ⟨e3, hno, y7, y8, rfl⟩ := hp
    dsimp only
    refine s_ret ev_c fun G4 e4 => (hQ2 _ G4 (e02.trans (e3.trans e4)) ?_ : Q .non G4)
    rw [find_no fun j y hy => hno j y ?_ hy] at hfa
    · cases hbad : nd.bad m with
      | none => exact .non
      | some qq => rw [hbad] at hfa; exact nomatch hfa
    · rw [List.length_map, hal]
      exact (List.getElem?_eq_some_iff.mp hy).1

theorem sc_check_admission : FnScope ["model", "variables", "expression", "reason"] ["model", "variables", "expression"] (defScope s_check_admission) := ⟨rfl, rfl, rfl, by decide +kernel, rfl, by decide +kernel, by decide +kernel⟩
theorem ok_check_admission {k : Nat} {C : Addr} (D : Df K mg "check_admission" s_check_admission ["model", "variables", "expression"] f fd) (hk : 2 ≤ k) (cr : Cl P w K mg base k "refusal" ["model", "variables", "expression"] (spRef K)) (xN : Xi P w K mg base "NotAdmitted" C) : FnG P w K mg base (L2.CX P w) (k + 1) f fd ["model", "variables", "expression"] (spCA K C) := by
  refine df_okX D sc_check_admission (fun vs H Q E h => by obtain ⟨sch, l, p, m, rows, nd, rfl, _⟩ := h; rfl) (fun cdv A outer s H vs Q E hG hr tk h => ?_)
  obtain ⟨sch, l, p, m, rows, nd, rfl, hm, ho, hV, hT, hw, hs, h0, h1⟩ := h
  have ndp := sc_check_admission.nd
  refine ⟨_, (pss_cons (ps_set (i := 3) ndp rfl (.inl rfl) (pe_cl cr hG hr rfl (pa_cons (pv 0) (pa_cons (pv 1) (pa_cons (pv 2) pa_nil))) (Nat.le_refl _))) (pss_one (ps_if (pt_cmpR op_notN (pv 3) pe_non (nomark _)) (pss_one (ps_raiseZ rfl xN hr tk (pa_cons (pv 3) pa_nil) rfl hk)) pss_nil))), ?_⟩
  refine q_raw (?_ : tCall _ _ _ _ _ _ _)
  refine (ea_cons (ev_var rfl) (ea_cons (ev_var rfl) (ea_cons (ev_var rfl) ea_nil))) H (Ex.refl H) _ fun H1 e1 => ?_
  refine ⟨sch, l, p, m, rows, nd, rfl, hm.ex e1, ho, hV.ex e1, hT.ex e1, hw, hs, fun v H2 e2 hd => ?_⟩
  dsimp only [List.set]
  have e12 := e1.trans e2
  rcases adm_cases m rows nd [] with ⟨ha, _⟩ | ⟨ds, ha⟩
  · rw [ha] at hd
    have := dp_non hd
    subst this
    refine s_when (b := false) (et_is (et_test (ev_op (ev_var rfl) ev_c fun G _ Q q => ⟨rfl, q G (Ex.refl G)⟩)) rfl) (fun z => nomatch z) (fun _ H3 e3 => h0 ha H3 (e12.trans e3))
  · obtain ⟨a, rfl⟩ := dp_tuple (by rw [ha] at hd; exact hd)
    refine s_when (b := true) (et_is (et_test (ev_op (ev_var rfl) ev_c fun G _ Q q => ⟨rfl, q G (Ex.refl G)⟩)) rfl) (fun _ H3 e3 => ?_) (fun z => nomatch z)
    exact s_rz (ev_var rfl) fun H4 e4 => h1 (by rw [ha]; exact fun z => nomatch z) _ H4 (e12.trans (e3.trans e4)) (dp_ex (e3.trans e4) _ _ hd)

theorem sc_type_of : FnScope ["model", "variables", "expression"] ["model", "variables", "expression"] (defScope s_type_of) := ⟨rfl, rfl, rfl, by decide +kernel, rfl, by decide +kernel, by decide +kernel⟩
theorem ok_type_of {k : Nat} {C : Addr} (D : Df K mg "type_of" s_type_of ["model", "variables", "expression"] f fd) (hk : 6 ≤ k) (cm : Cl P w K mg base 2 "check_model" ["model"] (PV (preM K))) (cv : Cl P w K mg base 2 "check_variables" ["variables"] spCV) (ce : Cl P w K mg base k "check_expression" ["variables", "expression"] spCE)
    (ca : ClX P w K mg base k "check_admission" ["model", "variables", "expression"] (spCA K C)) (cC : CT K mg "CONDITIONS" vCONDITIONS) (ck : Cl P w K mg base 6 "kinds_of" ["model", "named", "rows"] (spKinds K)) (cn : Cl P w K mg base 1 "kinds_by_name" ["variables"] spKBN) (cr : Cl P w K mg base k "rows_of" ["expression"] (spRows K)) :
    FnG P w K mg base (L2.CX P w) (k + 1) f fd ["model", "variables", "expression"] (spType K C) := by
  refine df_okX D sc_type_of (fun vs H Q E h => by obtain ⟨sch, l, p, m, rows, nd, rfl, _⟩ := h; rfl) (fun cdv A outer s H vs Q E hG hr tk h => ?_)
  obtain ⟨sch, l, p, m, rows, nd, rfl, R, h0, h1⟩ := h
  have ndp := sc_type_of.nd
  refine ⟨_, (pss_cons (ps_expr (pe_cl cm hG hr rfl (pa_cons (pv 0) pa_nil) (by omega))) (pss_cons (ps_expr (pe_cl cv hG hr rfl (pa_cons (pv 1) pa_nil) (by omega))) (pss_cons (ps_expr (pe_cl ce hG hr rfl (pa_cons (pv 1) (pa_cons (pv 2) pa_nil)) (Nat.le_refl _))) (pss_cons (ps_expr (pe_clX ca hG hr tk rfl (pa_cons (pv 0) (pa_cons (pv 1) (pa_cons (pv 2) pa_nil))) (Nat.le_refl _))) (pss_cons (ps_if (pt_cmpR op_in_seq (pe_ix ix_tup (pv 2) pe_int (fun _ _ => rfl)) (pe_ct rfl cC) (by rfl)) (pss_one (ps_ret pe_non)) pss_nil) (pss_one (ps_ret (pe_ix ix_list (pe_cl ck hG hr rfl (pa_cons (pv 0) (pa_cons (pe_cl cn hG hr rfl (pa_cons (pv 1) pa_nil) (by omega)) (pa_cons (pe_cl cr hG hr rfl (pa_cons (pv 2) pa_nil) (Nat.le_refl _)) pa_nil))) hk) (pe_un un_neg pe_int) (fun _ _ => rfl))))))))), ?_⟩
  refine q_drop (ev_call (ea_cons (ev_var rfl) ea_nil) (spM R.hm R.ho)) fun H1 e1 => ?_
  refine drop_raw (?_ : tCall _ _ _ _ _ _ _)
  refine (ea_cons (ev_var rfl) ea_nil) H1 (Ex.refl H1) _ fun H2 e2 => ?_
  have R2 := R.ex (e1.trans e2)
  refine ⟨l, rows, rfl, R2.hV, by have := R2.hz; omega, R2.hnm, R2.hnd, R2.hle, fun H3 e3 => ?_⟩
  refine drop_raw (?_ : tCall _ _ _ _ _ _ _)
  refine (ea_cons (ev_var rfl) (ea_cons (ev_var rfl) ea_nil)) H3 (Ex.refl H3) _ fun H4 e4 => ?_
  have R4 := R2.ex (e3.trans e4)
  refine ⟨l, p, rows, nd, rfl, R4.hV, R4.hz, R4.hnd, R4.hT, R4.hw, R4.hs, R4.hv, R4.hvn, fun H5 e5 => ?_⟩
  refine drop_raw (?_ : tCallS _ _ _ _ _ _)
  refine (ea_cons (ev_var rfl) (ea_cons (ev_var rfl) (ea_cons (ev_var rfl) ea_nil))) H5 (Ex.refl H5) _ fun H6 e6 => ?_
  have e16 := ((e1.trans e2).trans (e3.trans e4)).trans (e5.trans e6)
  have R6 := R4.ex (e5.trans e6)
  refine ⟨sch, l, p, m, rows, nd, rfl, R6.hm, R6.ho, R6.hV, R6.hT, R6.hw, R6.hs, fun ha H7 e7 => ?_, fun ha v H7 e7 hd => h1 ha v H7 (e16.trans e7) hd⟩
  have e17 := e16.trans e7
  have R7 := R6.ex e7
  have hb : admV m rows = none ∧ nd.bad m = none := by
    rcases adm_cases m rows nd [] with ⟨_, h2⟩ | ⟨ds, h2⟩
    · exact h2
    · rw [ha] at h2
      exact nomatch h2
  have ko : KdOk m rows nd := ⟨R7.hw, hb.2, fun x hx => vk_some (R7.hv x hx)⟩
  obtain ⟨rest, hd⟩ := R7.hT.head
  dsimp only
  refine q_when (b := !nd.isE) (et_is (et_test (ev_ct (ev_op (ev_var rfl) ev_c (rv_ixT (st_of hd) (atI_nat (j := 0) rfl))) fun a H8 e8 t => rv_isT t rfl rfl)) (cond_in nd)) (fun hc H8 e8 => ?_) (fun hc H8 e8 => ?_)
  · refine s_ret ev_c fun H9 e9 => ?_
    have := h0 ha H9 (e17.trans (e8.trans e9))
    unfold tyV at this
    rw [if_neg (by cases h : nd.isE with | true => rw [h] at hc; exact nomatch hc | false => decide)] at this
    exact this
  · have hE : nd.isE = true := by cases h : nd.isE with | true => rfl | false => rw [h] at hc; exact nomatch hc
    refine ret_raw (?_ : tOp _ _ _ _ _ _)
    refine op_raw (?_ : tCall _ _ _ _ _ _ _)
    refine ea_at (ev_var rfl) fun H9 e9 => ?_
    refine (?_ : tCons _ _ _ _ _)
    refine (?_ : tCall _ _ _ _ _ _ _)
    refine (ea_cons (ev_var rfl) ea_nil) H9 (Ex.refl H9) _ fun H10 e10 => ?_
    have e710 := (e8.trans e9).trans e10
    have R10 := R7.ex e710
    refine ⟨l, rows, rfl, R10.hV, R10.hz, R10.hnd, fun dn H11 n11 e11 hdn => ?_⟩
    refine (?_ : tCons _ _ _ _ _)
    refine (?_ : tCall _ _ _ _ _ _ _)
    refine (ea_cons (ev_var rfl) ea_nil) H11 (Ex.refl H11) _ fun H12 e12 => ?_
    have R12 := R10.ex (e11.trans e12)
    refine ⟨p, nd, (fun _ => False), rfl, R12.hT, R12.hs, (fun _ h => h.elim), fun rl H13 n13 e13 hR => ?_⟩
    have R13 := R12.ex e13
    have hlen := rows_len 30 nd [] 0 R13.hs
    refine (⟨sch, dn, rl, m, rows, rowsF 30 nd [] 0, (fun _ => False), rfl, R13.hm, R13.ho, (e12.trans e13) _ _ hdn, hR, ?_, ?_, ?_, fun kl H14 n14 e14 hkl => ?_⟩)
    · have := rows_ok 30 nd [] [] R13.hs (fun j pt nd2 pl h => nomatch h)
      exact this
    · exact rows_all (P := KdOk m rows) (fun nd2 e h he => h.part he) 30 nd [] 0 ko
    · have := R13.hs
      rw [hlen]
      omega
    rw [rowsF_end (d := 29), List.map_append] at hkl
    refine (ev_un ev_c ru_neg) H14 (Ex.refl H14) _ fun H15 e15 => ⟨kl, _, -1, ownV m rows nd, rfl, rfl, sq_of (e15 _ _ hkl), atI_last _ _, ?_⟩
    have := h0 ha H15 (e17.trans (e710.trans ((e11.trans e12).trans (e13.trans (e14.trans e15)))))
    unfold tyV at this
    rw [if_pos hE] at this
    exact this

theorem sc__law_rng : FnScope ["script", "digits", "seed", "cell", "far"] ["script"] (defScope s__law_rng) := ⟨rfl, rfl, rfl, by decide +kernel, rfl, by decide +kernel, by decide +kernel⟩
theorem ok__law_rng (D : Df K mg "_law_rng" s__law_rng ["script"] f fd) (ca : mg "abs" = none) : FnG P w K mg base CX0 1 f fd ["script"] (spRng K) := by
  refine df_ok D sc__law_rng (fun vs H Q E h => by obtain ⟨a, ns, rfl, _⟩ := h; rfl) (fun cdv A outer s H vs Q E hG hr h => ?_)
  obtain ⟨a, ns, rfl, hS, hlen, hQ⟩ := h
  have nd := sc__law_rng.nd
  refine ⟨_, pss_cons (ps_asg (pe_tup (pa_cons pe_int (pa_cons pe_int pa_nil))) (pg_tup rfl (pgs_cons (pg_name (i := 1) nd rfl (.inl rfl)) (pgs_cons (pg_name (i := 2) nd rfl (.inl rfl)) pgs_nil))))
    (pss_cons (ps_for PassesOwn.never rfl (pi_list (pe_slice sl_list (pv 0) po_none (po_some pe_int))) (pg_name (i := 3) nd rfl (.inl rfl))
      (pss_cons (ps_set (i := 4) nd rfl (.inl rfl) (pe_callB call_abs (by rfl) ca (by decide +kernel) (pa_cons (pv 3) pa_nil)))
      (pss_cons (ps_if (pt_cmpR op_ge (pv 4) (pe_op op_pow pe_int pe_int) (nomark _))
          (pss_one (ps_set (i := 1) nd rfl (.inl rfl) (pe_op op_add (pe_op op_mulW (pv 1) (pe_op op_pow pe_int pe_int)) (pe_op op_mod (pv 4) (pe_op op_pow pe_int pe_int))))) pss_nil)
      (pss_one (ps_set (i := 2) nd rfl (.inl rfl) (pe_op op_mod (pe_op op_add (pe_op op_add (pe_op op_mul (pv 2) pe_int) (pe_op op_mod (pv 3) pe_int)) pe_int) pe_int))))))
    (pss_one (ps_ret (pe_lst (pa_cons (pv 1) (pa_cons (pv 2) (pa_cons pe_int pa_nil))))))), ?_⟩
  refine ⟨by show 2 ≤ sizeLine; decide, fun t0 n0 => ?_⟩
  have e0 : Ex H (upd H t0 (.tup [.int 0, .int 88675123])) := Ex.new n0
  refine ⟨t0, _, rfl, st_of upd_same, rfl, _, _, rfl, _, _, rfl, rfl, ?_⟩
  have p18 : ∀ {σ : L2.St} {H : Hp} {a b : Int}, 0 ≤ b → b ≤ 1000 → a.natAbs < 2 ^ 64 → Ev (tOp (rI CPow fun i j => .int (i ^ j.toNat)) (tC (.int a)) (tC (.int b))) σ H (.int (a ^ b.toNat)) := fun h1 h2 h3 => ev_op ev_c ev_c (rv_I ⟨h1, by omega, h3⟩)
  refine q_forNLn (xs := cutV (ns.map V.int) none (some 63)) (el_sl (ev_var rfl) ?_ ?_ (ex_l e0 hS)) (fun p i σ H3 => Ex H H3 ∧ H3 p = some (.lst (cutV (ns.map V.int) none (some 63))) ∧ ∃ d sd y3 y4, σ = [some (.ref a), some (.int d), some (.int sd), y3, y4] ∧ 0 ≤ d ∧ d < 10 ^ (60 * i) ∧ 0 ≤ sd ∧ sd < 2305843009213693951) ?_ ?_ ?_ ?_
  · exact fun H1 e Q1 q1 => q1 H1 (Ex.refl H1)
  · exact fun H1 e Q1 q1 => ⟨63, rfl, q1 H1 (Ex.refl H1)⟩
  · exact fun p H1 n1 e1 h1 => ⟨e0.trans e1, h1, 0, 88675123, none, none, rfl, by decide, by decide, by decide, by decide⟩
  · exact fun p i σ H3 _ hp => sq_of hp.2.1
  · intro p i x σ H3 hx hp
    obtain ⟨e3, hp3, d, sd, y3, y4, rfl, d0, d1, s0, s1⟩ := hp
    have hi : i < 63 := by
      have h1 := (List.getElem?_eq_some_iff.mp hx).1
      have h2 := cutV_length (ns.map V.int) none (some 63)
      rw [List.length_map] at h2
      omega
    obtain ⟨z, _, rfl⟩ : ∃ z, z ∈ ns ∧ V.int z = x := List.mem_map.mp (cut_mem (List.mem_of_getElem? hx))
    refine q_asg (ev_cb (ea_cons (ev_var rfl) ea_nil) (fun H1 _ Q1 q1 => ⟨z, rfl, q1 H1 (Ex.refl H1)⟩)) fun H4 e4 => ?_
    have db := pow10_bits (Nat.le_of_lt hi) d0 d1
    have dle : d < 10 ^ (60 * (i + 1)) := by
      rw [pow10_step]
      have h1 : (10 : Int) ^ (60 * i) * 1 ≤ 10 ^ (60 * i) * 10 ^ 60 := Int.mul_le_mul_of_nonneg_left (by decide) (Int.le_of_lt (Int.pow_pos (by decide)))
      omega
    have fin : ∀ d' H5, Ex H4 H5 → 0 ≤ d' → d' < 10 ^ (60 * (i + 1)) → tAsg (tOp (rI (fun _ j => 0 < j) fun i j => .int (i % j)) (tOp (rI0 fun i j => .int (i + j)) (tOp (rI0 fun i j => .int (i + j)) (tOp (rI CMul fun i j => .int (i * j)) (tVar 2) (tC (.int 1000003))) (tOp (rI (fun _ j => 0 < j) fun i j => .int (i % j)) (tVar 3) (tC (.int 2305843009213693921)))) (tC (.int 7))) (tC (.int 2305843009213693951))) (gName 2)
        { nx := fun σ H3 => Ex H H3 ∧ H3 p = some (.lst (cutV (ns.map V.int) none (some 63))) ∧ ∃ d sd y3 y4, σ = [some (.ref a), some (.int d), some (.int sd), y3, y4] ∧ 0 ≤ d ∧ d < 10 ^ (60 * (i + 1)) ∧ 0 ≤ sd ∧ sd < 2305843009213693951, rt := Q,
          bk := tRet (tLst (tCons (tVar 1) (tCons (tVar 2) (tCons (tC (.int 0)) tNil)))) { nx := fun x H' => Q .non H', rt := Q }, ct := fun σ H3 => Ex H H3 ∧ H3 p = some (.lst (cutV (ns.map V.int) none (some 63))) ∧ ∃ d sd y3 y4, σ = [some (.ref a), some (.int d), some (.int sd), y3, y4] ∧ 0 ≤ d ∧ d < 10 ^ (60 * (i + 1)) ∧ 0 ≤ sd ∧ sd < 2305843009213693951 }
        [some (.ref a), some (.int d'), some (.int sd), some (.int z), some (.int (if z < 0 then -z else z))] H5 := by
      intro d' H5 e5 h0 h1
      refine s_asg (ev_op (ev_op (ev_op (ev_op (ev_var rfl) ev_c (rv_I (.inr ⟨by decide, by decide⟩))) (ev_op (ev_var rfl) ev_c (rv_I (by decide))) rv_I0) ev_c rv_I0) ev_c (rv_I (by decide))) fun H6 e6 => ?_
      refine ⟨e3.trans (e4.trans (e5.trans e6)), e6 _ _ (e5 _ _ (e4 _ _ hp3)), d', _, _, _, rfl, h0, h1, Int.emod_nonneg _ (by decide), Int.emod_lt_of_pos _ (by decide)⟩
    refine q_when (b := decide ((10 : Int) ^ (18 : Int).toNat ≤ (if z < 0 then -z else z))) (et_test (ev_op (ev_var rfl) (p18 (by decide) (by decide) (by decide)) rv_I0)) (fun hb H5 e5 => ?_) (fun hb H5 e5 => fin d H5 e5 d0 dle)
    have p60 : (10 : Int) ^ (60 : Int).toNat = 10 ^ 60 := rfl
    have bp : ((10 : Int) ^ (60 : Int).toNat).natAbs < 2 ^ 300 := by decide
    refine s_asg (ev_op (ev_op (ev_var rfl) (p18 (by decide) (by decide) (by decide)) (rv_I (wide_mul db bp (by decide) (by decide) (by decide)))) (ev_op (ev_var rfl) (p18 (by decide) (by decide) (by decide)) (rv_I (by decide))) rv_I0) fun H6 e6 => ?_
    rw [p60]
    refine fin _ H6 (e5.trans e6) ?_ ?_
    · have h1 := Int.emod_nonneg (if z < 0 then -z else z) (show (10 : Int) ^ 60 ≠ 0 by decide)
      have h2 := Int.mul_nonneg d0 (show (0 : Int) ≤ 10 ^ 60 by decide)
      omega
    · have h1 := Int.emod_lt_of_pos (if z < 0 then -z else z) (show (0 : Int) < 10 ^ 60 by decide)
      rw [pow10_step]
      have h2 : (d + 1) * 10 ^ 60 ≤ 10 ^ (60 * i) * 10 ^ 60 := Int.mul_le_mul_of_nonneg_right (by omega) (by decide)
      rw [Int.add_mul] at h2
      omega
  · intro p σ H3 hp
    obtain ⟨e3, hp3, d, sd, y3, y4, rfl, d0, d1, s0, s1⟩ := hp
    refine s_retL (el_lst (ea_cons (ev_var rfl) (ea_cons (ev_var rfl) (ea_cons ev_c ea_nil))) (by show 3 ≤ 100000; decide)) fun r H4 n4 e4 h4 => ?_
    exact hQ r H4 (fresh_back e3 n4) (e3.trans e4) ⟨d, sd, 0, h4, by omega, by omega, by omega⟩

theorem sc__law_draw : FnScope ["rng", "limit", "found", "mixed"] ["rng", "limit"] (defScope s__law_draw) := ⟨rfl, rfl, rfl, by decide +kernel, rfl, by decide +kernel, by decide +kernel⟩
theorem ok__law_draw (D : Df K mg "_law_draw" s__law_draw ["rng", "limit"] f fd) : FnG P w K mg base CX0 1 f fd ["rng", "limit"] spDraw := by
  refine df_ok D sc__law_draw (fun vs H Q E h => by obtain ⟨a, l, n, rfl, _⟩ := h; rfl) (fun cdv A outer s H vs Q E hG hr h => ?_)
  obtain ⟨r, l, n, rfl, l0, l1, hn, ⟨d, sd, c, hL, sb, c0, c1⟩, hQ⟩ := h
  have nd := sc__law_draw.nd
  refine ⟨_, pss_cons (ps_if (pt_cmpR op_gt (pe_ix ix_list (pv 0) pe_int (fun _ _ => rfl)) pe_int (nomark _))
      (pss_cons (ps_set (i := 2) nd rfl (.inl rfl) (pe_op op_mod (pe_ix ix_list (pv 0) pe_int (fun _ _ => rfl)) (pv 1)))
      (pss_cons (ps_asg (pe_op op_fdivW (pe_ix ix_list (pv 0) pe_int (fun _ _ => rfl)) (pv 1)) (pg_sub (pv 0) pe_int set_list))
      (pss_one (ps_ret (pv 2))))) pss_nil)
    (pss_cons (ps_asg (pe_op op_add (pe_ix ix_list (pv 0) pe_int (fun _ _ => rfl)) pe_int) (pg_sub (pv 0) pe_int set_list))
    (pss_cons (ps_set (i := 3) nd rfl (.inl rfl) (pe_op op_mod (pe_op op_powW (pe_op op_add (pe_ix ix_list (pv 0) pe_int (fun _ _ => rfl)) (pe_op op_mul pe_int (pe_ix ix_list (pv 0) pe_int (fun _ _ => rfl)))) pe_int) pe_int))
    (pss_cons (ps_set (i := 3) nd rfl (.inl rfl) (pe_op op_mod (pe_op op_powW (pe_op op_add (pv 3) (pe_op op_mul pe_int (pe_ix ix_list (pv 0) pe_int (fun _ _ => rfl)))) pe_int) pe_int))
    (pss_one (ps_ret (pe_op op_mod (pe_op op_fdivW (pv 3) pe_int) (pv 1))))))), ?_⟩
  have ix : ∀ {σ : L2.St} {H : Hp} {xs : List V} {j : Nat} {v : V}, H r = some (.lst xs) → σ[0]? = some (some (.ref r)) → xs[j]? = some v → Ev (tOp (rIxL K) (tVar 0) (tC (.int (j : Int)))) σ H v := fun h h0 hj => ev_op (ev_var h0) ev_c (rv_ixL (sq_of h) (atI_nat hj))
  refine q_when (et_test (ev_op (ix (j := 0) hL rfl rfl) ev_c rv_I0)) (fun hb H1 e1 => ?_) (fun hb H1 e1 => ?_)
  · have hL1 := e1 _ _ hL
    refine q_asg (ev_op (ix (j := 0) hL1 rfl rfl) (ev_var rfl) (rv_I l0)) fun H2 e2 => ?_
    have hL2 := e2 _ _ hL1
    refine q_setL (j := 0) hL2 (ev_op (ix (j := 0) hL2 rfl rfl) (ev_var rfl) (rv_I ⟨l0, l1⟩)) (ev_var rfl) ev_c (by show 0 < 3; decide) fun H3 e3 => ?_
    have bu : Bu r H (upd H3 r (.lst ([V.int d, V.int sd, V.int c].set 0 (V.int (d / l))))) := (Bu.of (((e1.trans e2).trans e3))).trans Bu.upd
    refine s_ret (ev_var rfl) fun H4 e4 => hQ H4 _ (bu.trans (Bu.of e4)) (Rng.ex ⟨d / l, sd, c, upd_same, sb, c0, by omega⟩ e4) (Int.emod_nonneg _ (by omega)) (Int.emod_lt_of_pos _ l0)
  · have hL1 := e1 _ _ hL
    refine q_setL (j := 2) hL1 (ev_op (ix (j := 2) hL1 rfl rfl) ev_c rv_I0) (ev_var rfl) ev_c (by show 2 < 3; decide) fun H2 e2 => ?_
    have bu : Bu r H (upd H2 r (.lst ([V.int d, V.int sd, V.int c].set 2 (V.int (c + 1))))) := (Bu.of (e1.trans e2)).trans Bu.upd
    have hL2 : (upd H2 r (.lst ([V.int d, V.int sd, V.int c].set 2 (V.int (c + 1))))) r = some (.lst [V.int d, V.int sd, V.int (c + 1)]) := upd_same
    generalize upd H2 r (.lst ([V.int d, V.int sd, V.int c].set 2 (V.int (c + 1)))) = H3 at bu hL2 ⊢
    have cm : CMul 998244353 (c + 1) := .inl ⟨by decide, by decide⟩
    have cm2 : CMul 32452843 (c + 1) := .inl ⟨by decide, by decide⟩
    have b1 : (sd + 998244353 * (c + 1)).natAbs < 2 ^ 200 := by omega
    refine q_asg (ev_op (ev_op (ev_op (ix (j := 1) hL2 rfl rfl) (ev_op ev_c (ix (j := 2) hL2 rfl rfl) (rv_I cm)) rv_I0) ev_c (rv_I (small_log (by decide) b1 (by decide)))) ev_c (rv_I (by decide))) fun H4 e4 => ?_
    have hL4 := e4 _ _ hL2
    have m0 := Int.emod_nonneg ((sd + 998244353 * (c + 1)) ^ (3 : Int).toNat) (show (162259276829213363391578010288127 : Int) ≠ 0 by decide)
    have m1 := Int.emod_lt_of_pos ((sd + 998244353 * (c + 1)) ^ (3 : Int).toNat) (show (0 : Int) < 162259276829213363391578010288127 by decide)
    generalize (sd + 998244353 * (c + 1)) ^ (3 : Int).toNat % 162259276829213363391578010288127 = x at m0 m1 ⊢
    have b2 : (x + 32452843 * (c + 1)).natAbs < 2 ^ 200 := by omega
    refine q_asg (ev_op (ev_op (ev_op (ev_var rfl) (ev_op ev_c (ix (j := 2) hL4 rfl rfl) (rv_I cm2)) rv_I0) ev_c (rv_I (small_log (by decide) b2 (by decide)))) ev_c (rv_I (by decide))) fun H5 e5 => ?_
    refine s_ret (ev_op (ev_op (ev_var rfl) ev_c (rv_I ⟨by decide, by decide⟩)) (ev_var rfl) (rv_I l0)) fun H6 e6 => ?_
    exact hQ H6 _ ((bu.trans (Bu.of e4)).trans (Bu.of (e5.trans e6))) ⟨d, sd, c + 1, e6 _ _ (e5 _ _ hL4), sb, by omega, by omega⟩ (Int.emod_nonneg _ (by omega)) (Int.emod_lt_of_pos _ l0)

theorem sc__law_labels : FnScope [] [] (defScope s__law_labels) := ⟨rfl, rfl, rfl, by decide +kernel, rfl, by decide +kernel, by decide +kernel⟩
theorem ok__law_labels (D : Df K mg "_law_labels" s__law_labels [] f fd) : FnG P w K mg base CX0 1 f fd [] (PL (preNil vKINDS)) := by
  refine df_ok D sc__law_labels (fun vs H Q E h => by obtain ⟨xs, ⟨rfl, _⟩, _⟩ := h; rfl) (fun cdv A outer s H vs Q E hG hr h => ?_)
  obtain ⟨xs, ⟨rfl, rfl⟩, hQ⟩ := h
  refine ⟨_, pss_one (ps_ret (pe_lst (pa_cons pe_str (pa_cons pe_str (pa_cons pe_str (pa_cons pe_str (pa_cons pe_str (pa_cons pe_str (pa_cons pe_str (pa_cons pe_str (pa_cons pe_str (pa_cons pe_str (pa_cons pe_str pa_nil))))))))))))), ?_⟩
  exact s_retL (el_lst (ea_cons ev_c (ea_cons ev_c (ea_cons ev_c (ea_cons ev_c (ea_cons ev_c (ea_cons ev_c (ea_cons ev_c (ea_cons ev_c (ea_cons ev_c (ea_cons ev_c (ea_cons ev_c ea_nil))))))))))) (by decide)) hQ

theorem sc__law_rank : FnScope ["label"] ["label"] (defScope s__law_rank) := ⟨rfl, rfl, rfl, by decide +kernel, rfl, by decide +kernel, by decide +kernel⟩
theorem ok__law_rank (D : Df K mg "_law_rank" s__law_rank ["label"] f fd) (c1 : Cl P w K mg base 1 "_law_labels" [] (PL (preNil vKINDS))) : FnG P w K mg base CX0 2 f fd ["label"] (PV (preKv fun k => .int k.rk)) := by
  refine df_ok D sc__law_rank (pre_len1 fun vs H v h => by obtain ⟨k, rfl, _⟩ := h; rfl) (fun cdv A outer s H vs Q E hG hr h => ?_)
  obtain ⟨v, ⟨k, rfl, rfl⟩, hQ⟩ := h
  refine ⟨_, pss_one (ps_ret (pe_ix ix_list (pe_lst (pa_cons pe_int (pa_cons pe_int (pa_cons pe_int (pa_cons pe_int (pa_cons pe_int (pa_cons pe_int (pa_cons pe_int (pa_cons pe_int (pa_cons pe_int (pa_cons pe_int (pa_cons pe_int pa_nil))))))))))))
    (pe_bm PySem.F.plainAttrs_list PySem.F.slot_list_index PySem.F.type_list_index mt_index (pe_cl0 c1 hG hr rfl) (pa_cons (pv 0) pa_nil)) (fun _ _ => rfl))), ?_⟩
  refine s_ret (ev_opL1 (xs := [.int 0, .int 0, .int 0, .int 1, .int 1, .int 2, .int 2, .int 3, .int 3, .int 4, .int 4]) (y := .int (k.ix : Nat))
    (el_lst (ea_cons ev_c (ea_cons ev_c (ea_cons ev_c (ea_cons ev_c (ea_cons ev_c (ea_cons ev_c (ea_cons ev_c (ea_cons ev_c (ea_cons ev_c (ea_cons ev_c (ea_cons ev_c ea_nil))))))))))) (by decide)) (fun H1 e1 => ?_) (fun p H1 h1 e1 => ?_)) hQ
  · exact ev_index (el_call ea_nil (PL.sp fun H2 e2 => ⟨rfl, rfl⟩)) fun H2 e2 => ev_var rfl
  · exact rv_ixL (sq_of h1) (atI_nat (by cases k <;> rfl))

theorem sc__law_is_signed : FnScope ["scheme", "label"] ["scheme", "label"] (defScope s__law_is_signed) := ⟨rfl, rfl, rfl, by decide +kernel, rfl, by decide +kernel, by decide +kernel⟩
theorem ok__law_is_signed (D : Df K mg "_law_is_signed" s__law_is_signed ["scheme", "label"] f fd) : FnG P w K mg base CX0 1 f fd ["scheme", "label"] (PV (preMK K fun m k => .bl (!m.un k))) := by
  refine df_ok D sc__law_is_signed (pre_len1 fun vs H v h => by obtain ⟨p, m, k, rfl, _⟩ := h; rfl) (fun cdv A outer s H vs Q E hG hr h => ?_)
  obtain ⟨v, ⟨p, m, k, rfl, hm, ho, rfl⟩, hQ⟩ := h
  obtain ⟨q, h1, h2⟩ := hm
  refine ⟨_, pss_cons (ps_if (pt_cmpR op_eq (pv 1) pe_str (nomark _)) (pss_one (ps_ret (pe_cmpR op_eq (pe_ix ix_tup (pv 0) pe_int (fun _ _ => rfl)) pe_str (nomark _)))) pss_nil)
    (pss_one (ps_ret (pe_cmpR op_in_seq (pv 1) (pe_lst (pa_cons pe_str (pa_cons pe_str (pa_cons pe_str (pa_cons pe_str (pa_cons pe_str pa_nil)))))) (by rfl)))), ?_⟩
  refine q_when (b := decide (k = .ch)) (et_is (et_test (ev_op (ev_var rfl) ev_c (rv_eq rfl))) ?_) (fun hb H1 e1 => ?_) (fun hb H1 e1 => ?_)
  · cases k <;> decide +kernel
  · have hk : k = .ch := of_decide_eq_true hb
    subst hk
    refine s_ret (ev_is (ev_op (ev_op (ev_var rfl) ev_c (rv_ixT (ex_t e1 h1) (atI_nat (j := 1) rfl))) ev_c (rv_eq rfl)) ?_) fun H2 e2 => hQ H2 (e1.trans e2)
    show V.bl (decide (V.str (plS m.u) = V.str "s")) = V.bl (!m.u)
    cases m.u <;> decide +kernel
  · refine s_ret (ev_is (ev_opL (xs := vSIGNED) (ev_var rfl) (el_lst (ea_cons ev_c (ea_cons ev_c (ea_cons ev_c (ea_cons ev_c (ea_cons ev_c ea_nil))))) (by decide)) fun a H2 h2 e2 => rv_isL (sq_of h2) rfl rfl) ?_) fun H2 e2 => hQ H2 (e1.trans e2)
    cases k <;> first | rfl | (exact absurd hb (by decide))

theorem sc__law_holds : FnScope ["scheme", "label", "far", "every"] ["scheme", "label", "far"] (defScope s__law_holds) := ⟨rfl, rfl, rfl, by decide +kernel, rfl, by decide +kernel, by decide +kernel⟩
theorem ok__law_holds (D : Df K mg "_law_holds" s__law_holds ["scheme", "label", "far"] f fd) (cr : Cl P w K mg base 2 "_law_rank" ["label"] (PV (preKv fun k => .int k.rk)))
    (cs : Cl P w K mg base 1 "_law_is_signed" ["scheme", "label"] (PV (preMK K fun m k => .bl (!m.un k)))) : FnG P w K mg base CX0 3 f fd ["scheme", "label", "far"] (PV (preMKI K fun m k i => .bl (decide (m.low k ≤ i ∧ i ≤ m.high k)))) := by
  refine df_ok D sc__law_holds (pre_len1 fun vs H v h => by obtain ⟨p, m, k, i, rfl, _⟩ := h; rfl) (fun cdv A outer s H vs Q E hG hr h => ?_)
  obtain ⟨v, ⟨p, m, k, i, rfl, hm, ho, rfl⟩, hQ⟩ := h
  obtain ⟨q, h1, h2⟩ := id hm
  obtain ⟨b0, b1⟩ := ho.b k
  have nd := sc__law_holds.nd
  refine ⟨_, pss_cons (ps_set (i := 3) nd rfl (.inl rfl) (pe_op op_shl pe_int (pe_ix ix_tup (pe_ix ix_tup (pv 0) pe_int (fun _ _ => rfl)) (pe_cl cr hG hr rfl (pa_cons (pv 1) pa_nil)) (fun _ _ => rfl))))
    (pss_cons (ps_if (pt_val (pe_cl cs hG hr rfl (pa_cons (pv 0) (pa_cons (pv 1) pa_nil)))) (pss_one (ps_ret (pe_chain op_le op_lt (pe_op op_sub pe_int (pv 3)) (pe_op op_mul pe_int (pv 2)) (pv 3)))) pss_nil)
    (pss_one (ps_ret (pe_chain op_le op_lt pe_int (pv 2) (pv 3))))), ?_⟩
  dsimp only at hQ
  rw [← m.held ho k i] at hQ
  refine q_asg (v := .int (2 ^ m.b k)) (shl1 b1 ev_c (ev_op (ev_op (ev_var rfl) ev_c (rv_ixT h1 (atI_nat (j := 0) rfl))) (ev_call (ea_cons (ev_var rfl) ea_nil) (spKv (g := fun k => V.int k.rk) (k := k))) (rv_ixT h2 (atI_nat (j := k.rk) (Md.at_ k.rk_lt))))) fun H1 e1 => ?_
  refine q_when (et_B (ev_mk (hm.ex e1) ho rfl rfl)) (fun hb H2 e2 => ?_) (fun hb H2 e2 => ?_)
  · rw [if_pos hb] at hQ
    exact s_ret (ev_chLeLt (ev_op ev_c (ev_var rfl) rv_I0) (ev_op ev_c (ev_var rfl) (rv_I (.inl ⟨by decide, by decide⟩))) (ev_var rfl)) fun H3 e3 => hQ H3 ((e1.trans e2).trans e3)
  · rw [if_neg (by rw [hb]; decide)] at hQ
    exact s_ret (ev_chLeLt ev_c (ev_var rfl) (ev_var rfl)) fun H3 e3 => hQ H3 ((e1.trans e2).trans e3)

theorem sc__law_of : FnScope ["rank", "signed"] ["rank", "signed"] (defScope s__law_of) := ⟨rfl, rfl, rfl, by decide +kernel, rfl, by decide +kernel, by decide +kernel⟩
theorem ok__law_of (D : Df K mg "_law_of" s__law_of ["rank", "signed"] f fd) (cin : mg "int" = none) : FnG P w K mg base CX0 1 f fd ["rank", "signed"] (PV preOf) := by
  refine df_ok D sc__law_of (pre_len1 fun vs H v h => by obtain ⟨r, s, rfl, _⟩ := h; rfl) (fun cdv A outer s H vs Q E hG hr h => ?_)
  obtain ⟨v, ⟨r, b, rfl, h0, h1, rfl⟩, hQ⟩ := h
  refine ⟨_, pss_one (ps_ret (pe_ix ix_list (pe_ix ix_list (pe_lst (pa_cons (pe_lst (pa_cons pe_str (pa_cons pe_str (pa_cons pe_str pa_nil)))) (pa_cons (pe_lst (pa_cons pe_str (pa_cons pe_str (pa_cons pe_str pa_nil)))) pa_nil)))
    (pe_callTy call_int1 (by rfl) cin (by decide +kernel) (pa_cons (pv 1) pa_nil)) (fun _ _ => rfl)) (pe_op op_sub (pv 0) pe_int) (fun _ _ => rfl))), ?_⟩
  have e1 : ∀ {σ : L2.St} {H : Hp}, EvL (tLst (tCons (tC Kd.ui.v) (tCons (tC Kd.ul.v) (tCons (tC Kd.uw.v) tNil)))) σ H [Kd.ui.v, Kd.ul.v, Kd.uw.v] := el_lst (ea_cons ev_c (ea_cons ev_c (ea_cons ev_c ea_nil))) (by decide)
  have e2 : ∀ {σ : L2.St} {H : Hp}, EvL (tLst (tCons (tC Kd.it.v) (tCons (tC Kd.lo.v) (tCons (tC Kd.wi.v) tNil)))) σ H [Kd.it.v, Kd.lo.v, Kd.wi.v] := el_lst (ea_cons ev_c (ea_cons ev_c (ea_cons ev_c ea_nil))) (by decide)
  refine (show tOp _ _ _ _ _ _ from op_raw (op_raw (lst_raw (ea_atL e1 fun l1 H1 n1 x1 a1 => ea_atL e2 fun l2 H2 n2 x2 a2 => ⟨by show 2 ≤ sizeLine; decide, fun l n => ?_⟩))))
  refine ⟨_, rfl, .inr ⟨b, rfl, ?_⟩⟩
  have a1' : (upd H2 l (.lst [.ref l1, .ref l2])) l1 = some (.lst [Kd.ui.v, Kd.ul.v, Kd.uw.v]) := Ex.new n _ _ (x2 _ _ a1)
  have a2' : (upd H2 l (.lst [.ref l1, .ref l2])) l2 = some (.lst [Kd.it.v, Kd.lo.v, Kd.wi.v]) := Ex.new n _ _ a2
  have e3 : Ex H (upd H2 l (.lst [.ref l1, .ref l2])) := (x1.trans x2).trans (Ex.new n)
  have e4 : ((r : Nat) : Int) - 2 = ((r - 2 : Nat) : Int) := by omega
  cases b
  · refine ⟨l, _, 0, _, rfl, rfl, sq_of upd_same, atI_nat (j := 0) rfl, _, rfl, _, _, rfl, rfl, l1, _, _, _, rfl, rfl, sq_of a1', ?_, hQ _ e3⟩
    rw [e4]
    refine atI_nat ?_
    match r, h0, h1 with
    | 2, _, _ => rfl
    | 3, _, _ => rfl
    | 4, _, _ => rfl
  · refine ⟨l, _, 1, _, rfl, rfl, sq_of upd_same, atI_nat (j := 1) rfl, _, rfl, _, _, rfl, rfl, l2, _, _, _, rfl, rfl, sq_of a2', ?_, hQ _ e3⟩
    rw [e4]
    refine atI_nat ?_
    match r, h0, h1 with
    | 2, _, _ => rfl
    | 3, _, _ => rfl
    | 4, _, _ => rfl

theorem sc__law_promoted : FnScope ["scheme", "label", "small", "size_here"] ["scheme", "label"] (defScope s__law_promoted) := ⟨rfl, rfl, rfl, by decide +kernel, rfl, by decide +kernel, by decide +kernel⟩
theorem ok__law_promoted (D : Df K mg "_law_promoted" s__law_promoted ["scheme", "label"] f fd) (cr : Cl P w K mg base 2 "_law_rank" ["label"] (PV (preKv fun k => .int k.rk)))
    (cs : Cl P w K mg base 1 "_law_is_signed" ["scheme", "label"] (PV (preMK K fun m k => .bl (!m.un k)))) : FnG P w K mg base CX0 3 f fd ["scheme", "label"] (PV (preMK K fun m k => (m.prom k).v)) := by
  refine df_ok D sc__law_promoted (pre_len1 fun vs H v h => by obtain ⟨p, m, k, rfl, _⟩ := h; rfl) (fun cdv A outer s H vs Q E hG hr h => ?_)
  obtain ⟨v, ⟨p, m, k, rfl, hm, ho, rfl⟩, hQ⟩ := h
  obtain ⟨q, h1, h2⟩ := id hm
  have nd := sc__law_promoted.nd
  refine ⟨_, pss_cons (ps_if (pt_cmpR op_gt (pe_cl cr hG hr rfl (pa_cons (pv 1) pa_nil)) pe_int (nomark _)) (pss_one (ps_ret (pv 1))) pss_nil)
    (pss_cons (ps_par (i := 2) (j := 3) rfl nd rfl rfl (by decide) rfl rfl (pa_cons (pe_ix ix_tup (pe_ix ix_tup (pv 0) pe_int (fun _ _ => rfl)) (pe_cl cr hG hr rfl (pa_cons (pv 1) pa_nil)) (fun _ _ => rfl)) (pa_cons (pe_ix ix_tup (pe_ix ix_tup (pv 0) pe_int (fun _ _ => rfl)) pe_int (fun _ _ => rfl)) pa_nil)) (by rfl))
    (pss_one (ps_ret (pe_ifExp (PW.pt (pw_or (pt_val (pe_cl cs hG hr rfl (pa_cons (pv 0) (pa_cons (pv 1) pa_nil)))) (pw_or1 (pt_cmpR op_lt (pv 2) (pv 3) (nomark _))))) pe_str pe_str)))), ?_⟩
  dsimp only at hQ
  refine q_when (et_test (ev_op (ev_call (ea_cons (ev_var rfl) ea_nil) (spKv (g := fun k => V.int k.rk) (k := k))) ev_c rv_I0)) (fun hb H1 e1 => ?_) (fun hb H1 e1 => ?_)
  · have h3 : (1 : Int) < (k.rk : Nat) := of_decide_eq_true hb
    have e : m.prom k = k := by
      unfold Md.prom
      rw [if_pos (by omega)]
    rw [e] at hQ
    exact s_ret (ev_var rfl) fun H2 e2 => hQ H2 (e1.trans e2)
  · have h3 : ¬ (1 : Int) < (k.rk : Nat) := of_decide_eq_false hb
    refine q_par (ev_op (ev_op (ev_var rfl) ev_c (rv_ixT (ex_t e1 h1) (atI_nat (j := 0) rfl))) (ev_call (ea_cons (ev_var rfl) ea_nil) (spKv (g := fun k => V.int k.rk) (k := k))) (rv_ixT (ex_t e1 h2) (atI_nat (j := k.rk) (Md.at_ k.rk_lt))))
      (ev_op (ev_op (ev_var rfl) ev_c (rv_ixT (ex_t e1 h1) (atI_nat (j := 0) rfl))) ev_c (rv_ixT (ex_t e1 h2) (atI_nat (j := 2) (Md.at_ (by decide))))) fun H2 e2 => ?_
    have e : m.prom k = if m.un k = true ∧ m.b .it ≤ m.b k then .ui else .it := by
      unfold Md.prom
      rw [if_neg (by omega)]
    have hb2 : m.b .it = m.w 2 := rfl
    have hb3 : m.b k = m.w k.rk := rfl
    rw [e, hb2, hb3] at hQ
    refine s_ret (ev_if (et_or (et_B (ev_mk (hm.ex (e1.trans e2)) ho rfl rfl)) fun _ => et_test (ev_op (ev_var rfl) (ev_var rfl) rv_I0)) (fun hc => ev_is ev_c ?_) (fun hc => ev_is ev_c ?_)) fun H3 e3 => hQ H3 ((e1.trans e2).trans e3)
    · rw [if_neg]
      · rfl
      · intro z
        rw [z.1] at hc
        simp at hc
        omega
    · rw [if_pos]
      · rfl
      · cases hz : m.un k
        · rw [hz] at hc
          simp at hc
        · rw [hz] at hc
          simp at hc
          exact ⟨rfl, hc⟩

theorem sc__law_common : FnScope ["scheme", "one", "two", "left", "right", "high", "plus", "wider"] ["scheme", "one", "two"] (defScope s__law_common) := ⟨rfl, rfl, rfl, by decide +kernel, rfl, by decide +kernel, by decide +kernel⟩
theorem ok__law_common (D : Df K mg "_law_common" s__law_common ["scheme", "one", "two"] f fd) (cr : Cl P w K mg base 2 "_law_rank" ["label"] (PV (preKv fun k => .int k.rk)))
    (cs : Cl P w K mg base 1 "_law_is_signed" ["scheme", "label"] (PV (preMK K fun m k => .bl (!m.un k)))) (cp : Cl P w K mg base 3 "_law_promoted" ["scheme", "label"] (PV (preMK K fun m k => (m.prom k).v)))
    (co : Cl P w K mg base 1 "_law_of" ["rank", "signed"] (PV preOf)) (cm : mg "max" = none) : FnG P w K mg base CX0 4 f fd ["scheme", "one", "two"] (PV (preMKK K fun m k l => (m.com k l).v)) := by
  refine df_ok D sc__law_common (pre_len1 fun vs H v h => by obtain ⟨p, m, k, l, rfl, _⟩ := h; rfl) (fun cdv A outer s H vs Q E hG hr h => ?_)
  obtain ⟨v, ⟨p, m, k, l, rfl, hm, ho, rfl⟩, hQ⟩ := h
  have nd := sc__law_common.nd
  refine ⟨_, pss_cons (ps_par (i := 3) (j := 4) rfl nd rfl rfl (by decide) rfl rfl (pa_cons (pe_cl cp hG hr rfl (pa_cons (pv 0) (pa_cons (pv 1) pa_nil))) (pa_cons (pe_cl cp hG hr rfl (pa_cons (pv 0) (pa_cons (pv 2) pa_nil))) pa_nil)) (by rfl))
    (pss_cons (ps_set (i := 5) nd rfl (.inl rfl) (pe_callB (call_max2 rfl) (by rfl) cm (by decide +kernel) (pa_cons (pe_cl cr hG hr rfl (pa_cons (pv 3) pa_nil)) (pa_cons (pe_cl cr hG hr rfl (pa_cons (pv 4) pa_nil)) pa_nil))))
    (pss_cons (ps_if (pt_cmpR op_eq (pe_cl cs hG hr rfl (pa_cons (pv 0) (pa_cons (pv 3) pa_nil))) (pe_cl cs hG hr rfl (pa_cons (pv 0) (pa_cons (pv 4) pa_nil))) (nomark _))
        (pss_one (ps_ret (pe_cl co hG hr rfl (pa_cons (pv 5) (pa_cons (pe_cl cs hG hr rfl (pa_cons (pv 0) (pa_cons (pv 3) pa_nil))) pa_nil))))) pss_nil)
    (pss_cons (ps_set (i := 6) nd rfl (.inl rfl) (pe_ifExp (pt_not (pt_val (pe_cl cs hG hr rfl (pa_cons (pv 0) (pa_cons (pv 3) pa_nil))))) (pv 3) (pv 4)))
    (pss_cons (ps_set (i := 7) nd rfl (.inl rfl) (pe_cmpR op_gt (pe_ix ix_tup (pe_ix ix_tup (pv 0) pe_int (fun _ _ => rfl)) (pv 5) (fun _ _ => rfl)) (pe_ix ix_tup (pe_ix ix_tup (pv 0) pe_int (fun _ _ => rfl)) (pe_cl cr hG hr rfl (pa_cons (pv 6) pa_nil)) (fun _ _ => rfl)) (nomark _)))
    (pss_one (ps_ret (pe_cl co hG hr rfl (pa_cons (pv 5) (pa_cons (pe_and (pe_cmpR op_lt (pe_cl cr hG hr rfl (pa_cons (pv 6) pa_nil)) (pv 5) (nomark _)) (pe_one (pv 7))) pa_nil))))))))), ?_⟩
  dsimp only at hQ
  refine q_par (ev_mk hm ho rfl rfl) (ev_mk hm ho rfl rfl) fun H1 e1 => ?_
  have hm1 := hm.ex e1
  have ha := m.prom_big k
  have hb := m.prom_big l
  unfold Md.com at hQ
  generalize m.prom k = a at hQ ha ⊢
  generalize m.prom l = b at hQ hb ⊢
  rw [← m.lawCom_eq ha hb] at hQ
  obtain ⟨a0, a1⟩ := big_rk ha
  obtain ⟨b0, b1⟩ := big_rk hb
  have rk : ∀ {σ : L2.St} {H : Hp} {tk : TE} {k : Kd}, Ev tk σ H k.v → Ev (tCall (PV (preKv fun k => .int k.rk)) [] E0 (tCons tk tNil)) σ H (.int (k.rk : Nat)) := fun h => ev_call (ea_cons h ea_nil) (spKv (g := fun k => V.int k.rk))
  refine q_asg (v := .int ((max a.rk b.rk : Nat) : Int)) (ev_cb (ea_cons (rk (ev_var rfl)) (ea_cons (rk (ev_var rfl)) ea_nil)) fun H2 e2 Q1 q1 => ⟨_, _, rfl, ?_⟩) fun H2 e2 => ?_
  · have e : (if ((b.rk : Nat) : Int) > ((a.rk : Nat) : Int) then ((b.rk : Nat) : Int) else ((a.rk : Nat) : Int)) = ((max a.rk b.rk : Nat) : Int) := by
      split <;> omega
    rw [e]
    exact q1 H2 (Ex.refl H2)
  have hm2 := hm1.ex e2
  have m0 : 2 ≤ max a.rk b.rk := by omega
  have m1 : max a.rk b.rk ≤ 4 := by omega
  unfold Md.lawCom at hQ
  generalize max a.rk b.rk = hi at hQ m0 m1 ⊢
  refine q_when (b := decide ((!m.un a) = (!m.un b))) (et_is (et_test (ev_op (ev_mk hm2 ho rfl rfl) (ev_mk hm2 ho rfl rfl) (rv_eq rfl))) ?_) (fun hc H3 e3 => ?_) (fun hc H3 e3 => ?_)
  · cases m.un a <;> cases m.un b <;> decide
  · rw [if_pos (of_decide_eq_true hc)] at hQ
    exact s_ret (ev_call (ea_cons (ev_var rfl) (ea_cons (ev_mk (hm2.ex e3) ho rfl rfl) ea_nil)) (spOf m0 m1)) fun H4 e4 => hQ H4 (((e1.trans e2).trans e3).trans e4)
  · rw [if_neg (of_decide_eq_false hc)] at hQ
    have hm3 := hm2.ex e3
    refine q_asg (v := Kd.v (if (!(!m.un a)) = true then a else b)) (ev_if (et_not (et_B (ev_mk hm3 ho rfl rfl))) (fun z => ev_is (ev_var rfl) ?_) (fun z => ev_is (ev_var rfl) ?_)) fun H4 e4 => ?_
    · rw [if_pos z]
    · rw [if_neg (by rw [z]; decide)]
    obtain ⟨q, h1, h2⟩ := hm3.ex e4
    generalize (if (!(!m.un a)) = true then a else b) = pl at hQ ⊢
    refine q_asg (v := .bl (decide (m.w pl.rk < m.w hi))) (ev_is (ev_op (ev_op (ev_op (ev_var rfl) ev_c (rv_ixT h1 (atI_nat (j := 0) rfl))) (ev_var rfl) (rv_ixT h2 (atI_nat (j := hi) (Md.at_ (by omega)))))
        (ev_op (ev_op (ev_var rfl) ev_c (rv_ixT h1 (atI_nat (j := 0) rfl))) (rk (ev_var rfl)) (rv_ixT h2 (atI_nat (j := pl.rk) (Md.at_ pl.rk_lt)))) rv_I0) ?_) fun H5 e5 => ?_
    · show V.bl (decide (((m.w pl.rk : Nat) : Int) < ((m.w hi : Nat) : Int))) = _
      congr 1
      by_cases z : m.w pl.rk < m.w hi
      · rw [decide_eq_true z, decide_eq_true (by omega)]
      · rw [decide_eq_false z, decide_eq_false (by omega)]
    · refine s_ret (ev_call (ea_cons (ev_var rfl) (ea_cons (ev_is (ev_andV (ev_op (rk (ev_var rfl)) (ev_var rfl) rv_I0) fun _ => ev_var rfl) ?_) ea_nil)) (spOf (s := decide (pl.rk < hi) && decide (m.w pl.rk < m.w hi)) m0 m1)) fun H6 e6 => hQ H6 (((((e1.trans e2).trans e3).trans e4).trans e5).trans e6)
      congr 2
      by_cases z : pl.rk < hi
      · rw [decide_eq_true z, decide_eq_true (by omega)]
      · rw [decide_eq_false z, decide_eq_false (by omega)]

theorem sc__law_scheme : FnScope ["rng", "low", "top", "found", "here", "rank", "step"] ["rng", "low", "top"] (defScope s__law_scheme) := ⟨rfl, rfl, rfl, by decide +kernel, rfl, by decide +kernel, by decide +kernel⟩
theorem ok__law_scheme (D : Df K mg "_law_scheme" s__law_scheme ["rng", "low", "top"] f fd) (c1 : Cl P w K mg base 1 "_law_draw" ["rng", "limit"] spDraw) (cr : mg "range" = none) (cm : mg "min" = none) (ct : mg "tuple" = none) :
    FnG P w K mg base CX0 2 f fd ["rng", "low", "top"] (spScheme K) := by
  refine df_ok D sc__law_scheme (fun vs H Q E h => by obtain ⟨r, low, top, n, rfl, _⟩ := h; rfl) (fun cdv A outer s H vs Q E hG hr h => ?_)
  obtain ⟨r, low, top, n, rfl, low0, low1, top1, hn, g0, hQ⟩ := h
  have nd := sc__law_scheme.nd
  refine ⟨_, pss_cons (ps_par (i := 3) (j := 4) rfl nd rfl rfl (by decide) rfl rfl (pa_cons (pe_lst pa_nil) (pa_cons (pv 1) pa_nil)) (by rfl))
    (pss_cons (ps_for PassesOwn.never rfl (pi_range1 (by rfl) cr (pa_cons pe_int pa_nil)) (pg_name (i := 5) nd rfl (.inl rfl))
      (pss_cons (ps_set (i := 6) nd rfl (.inl rfl) (pe_ix ix_list (pe_lst (pa_cons pe_int (pa_cons pe_int (pa_cons pe_int
          (pa_cons (pe_cl c1 hG hr rfl (pa_cons (pv 0) (pa_cons (pe_op op_add pe_int (pe_op op_fdiv (pe_op op_sub (pv 2) (pv 1)) pe_int)) pa_nil)))
          (pa_cons (pe_cl c1 hG hr rfl (pa_cons (pv 0) (pa_cons (pe_op op_sub (pe_op op_add pe_int (pv 2)) (pv 1)) pa_nil))) pa_nil))))))
          (pe_cl c1 hG hr rfl (pa_cons (pv 0) (pa_cons pe_int pa_nil))) (fun _ _ => rfl)))
      (pss_cons (ps_set (i := 4) nd rfl (.inl rfl) (pe_callB (call_min2 rfl) (by rfl) cm (by decide +kernel) (pa_cons (pv 2) (pa_cons (pe_op op_add (pv 4) (pv 6)) pa_nil))))
      (pss_one (ps_expr (pe_bm PySem.F.plainAttrs_list PySem.F.slot_list_append PySem.F.type_list_append mt_append (pv 3) (pa_cons (pv 4) pa_nil)))))))
    (pss_one (ps_ret (pe_tup (pa_cons (pe_callTy call_tuple_of (by rfl) ct (by decide +kernel) (pa_cons (pv 3) pa_nil)) (pa_cons (pe_ix ix_str pe_str (pe_cl c1 hG hr rfl (pa_cons (pv 0) (pa_cons pe_int pa_nil))) (fun _ _ => rfl)) pa_nil)))))), ?_⟩
  refine ⟨Nat.zero_le _, fun l nl => ⟨_, rfl, _, _, rfl, ?_⟩⟩
  have e0 : Ex H (upd H l (.lst [])) := Ex.new nl
  have hlr : l ≠ r := by
    obtain ⟨d, s2, c, q, _⟩ := g0
    exact fun z => by
      rw [z, q] at nl
      cases nl
  refine q_forR1 (n := 5) (ea_cons ev_c ea_nil) (by decide) (fun i σ H3 => Bu r H H3 ∧ Rng H3 r (n + 3 * i) ∧ ∃ (xs : List Int) (here : Int) (y5 y6 : Option V), σ = [some (.ref r), some (.int low), some (.int top), some (.ref l), some (.int here), y5, y6] ∧ H3 l = some (.lst (xs.map V.int)) ∧ xs.length = i ∧ Asc low xs here ∧ here ≤ top) ?_ ?_ ?_
  · exact fun H1 e1 => ⟨Bu.of (e0.trans e1), g0.ex (e0.trans e1), [], low, none, none, rfl, e1 _ _ upd_same, rfl, Int.le_refl _, low1⟩
  · intro i σ H3 hi hp
    obtain ⟨bu, g, xs, here, y5, y6, rfl, hl, hx, ha, ht⟩ := hp
    have hle := ha.le
    have hi5 : i < 5 := by omega
    -- step
    refine draw_at (l := 1 + (top - low) / 3) (n := n + 3 * i) (ea_cons (ev_var rfl) (ea_cons (ev_op ev_c (ev_op (ev_op (ev_var rfl) (ev_var rfl) rv_I0) ev_c (rv_I ⟨by decide, by decide⟩)) rv_I0) ea_nil)) (by omega) (log_small (by omega)) (by omega) g fun H4 v1 b4 g4 v10 v11 => ?_
    refine draw_at (l := 1 + top - low) (n := n + 3 * i + 1) (ea_cons (ev_var rfl) (ea_cons (ev_op (ev_op ev_c (ev_var rfl) rv_I0) (ev_var rfl) rv_I0) ea_nil)) (by omega) (log_small (by omega)) (by omega) g4 fun H5 v2 b5 g5 v20 v21 => ?_
    refine ⟨by show 5 ≤ sizeLine; decide, fun t nt => ?_⟩
    have e5 : Ex H5 (upd H5 t (.lst [.int 0, .int 0, .int 1, .int v1, .int v2])) := Ex.new nt
    have htr : t ≠ r := by
      obtain ⟨d, s2, c, q, _⟩ := g5
      exact fun z => by
        rw [z, q] at nt
        cases nt
    refine draw_at (l := 5) (n := n + 3 * i + 2) (ea_cons (ev_var rfl) (ea_cons ev_c ea_nil)) (by omega) (log_small (by decide)) (by omega) (g5.ex e5) fun H6 v3 b6 g6 v30 v31 => ?_
    have ht6 : H6 t = some (.lst [.int 0, .int 0, .int 1, .int v1, .int v2]) := b6 _ _ htr upd_same
    obtain ⟨j, rfl⟩ : ∃ j : Nat, v3 = (j : Int) := ⟨v3.toNat, by omega⟩
    obtain ⟨st, hst, st0⟩ : ∃ st : Int, [V.int 0, V.int 0, V.int 1, V.int v1, V.int v2][j]? = some (.int st) ∧ 0 ≤ st := by
      match j, v31 with
      | 0, _ => exact ⟨0, rfl, by decide⟩
      | 1, _ => exact ⟨0, rfl, by decide⟩
      | 2, _ => exact ⟨1, rfl, by decide⟩
      | 3, _ => exact ⟨v1, rfl, v10⟩
      | 4, _ => exact ⟨v2, rfl, v20⟩
      | j + 5, h => omega
    refine ⟨t, _, _, _, rfl, rfl, sq_of ht6, atI_nat hst, ?_⟩
    have bu6 : Bu r H H6 := ((bu.trans b4).trans b5).trans ((Bu.of e5).trans b6)
    have hl6 : H6 l = some (.lst (xs.map V.int)) := b6 _ _ hlr (e5 _ _ (b5 _ _ hlr (b4 _ _ hlr hl)))
    -- here
    dsimp only [gName, List.set]
    refine q_asg (v := .int (if here + st < top then here + st else top)) (ev_cb (ea_cons (ev_var rfl) (ea_cons (ev_op (ev_var rfl) (ev_var rfl) rv_I0) ea_nil)) fun H7 e7 Q1 q1 => ⟨_, _, rfl, q1 H7 (Ex.refl H7)⟩) fun H7 e7 => ?_
    refine s_app (xs := xs.map V.int) (e7 _ _ hl6) (ev_var rfl) (ev_var rfl) (by rw [List.length_map]; omega) fun H8 e8 => ?_
    have hnl : ∀ b o, b ≠ r → H b = some o → (upd H8 l (.lst (xs.map V.int ++ [.int (if here + st < top then here + st else top)]))) b = some o := fun b o nb q => by
      rw [upd_ne (ne_of_none q nl)]
      exact e8 _ _ (e7 _ _ (bu6 b o nb q))
    refine ⟨hnl, ?_, xs ++ [if here + st < top then here + st else top], _, _, _, rfl, ?_, ?_, ?_, ?_⟩
    · obtain ⟨d, s2, c, q, q2⟩ := g6
      refine ⟨d, s2, c, ?_, q2.1, q2.2.1, by have := q2.2.2; omega⟩
      rw [upd_ne (Ne.symm hlr)]
      exact e8 _ _ (e7 _ _ q)
    · rw [List.map_append]
      exact upd_same
    · rw [List.length_append, hx]
      rfl
    · refine ha.add ?_
      split <;> omega
    · split <;> omega
  · intro σ H3 hp
    obtain ⟨bu, g, xs, here, y5, y6, rfl, hl, hx, ha, ht⟩ := hp
    -- tuple(found)
    refine ⟨_, rfl, l, _, rfl, .inl ⟨sq_of hl, fun q nq => ?_⟩⟩
    have e4 : Ex H3 (upd H3 q (.tup (xs.map V.int))) := Ex.new nq
    have g4 := g.ex e4
    refine draw_at (l := 2) (n := n + 3 * 5) (ea_cons (ev_var rfl) (ea_cons ev_c ea_nil)) (by decide) (log_small (by decide)) (by omega) g4 fun H5 v b5 g5 v0 v1 => ?_
    have hq5 : H5 q = some (.tup (xs.map V.int)) := b5 _ _ (g4.ne_tup (upd_same (a := q))) upd_same
    obtain ⟨u, hu⟩ : ∃ u : Bool, atI ("su" : Str).cps.toList v = some (if u then 117 else 115) := by
      have hv : v = 0 ∨ v = 1 := by omega
      rcases hv with rfl | rfl
      · exact ⟨false, by decide +kernel⟩
      · exact ⟨true, by decide +kernel⟩
    refine ⟨_, v, _, rfl, rfl, by decide +kernel, hu, ?_⟩
    refine ⟨by show 2 ≤ sizeLine; decide, fun p np => ?_⟩
    match xs, hx, ha with
    | [a, b, c, d, e], _, ha =>
      obtain ⟨a0, a1, a2, a3, a4, a5⟩ := ha
      have a5 : e ≤ here := a5
      refine hQ p _ ⟨a.toNat, b.toNat, c.toNat, d.toNat, e.toNat, u⟩ ((bu.trans (Bu.of e4)).trans (b5.trans (Bu.of (Ex.new np)))) ((g5.ex (Ex.new np)).le (by omega)) ⟨q, st_of ?_, st_of ?_⟩ ⟨?_, ?_, ?_, ?_, ?_, ?_⟩ ?_ ?_
      · rw [upd_same]
        congr 2
        cases u <;> rfl
      · rw [upd_ne (ne_of_none hq5 np), hq5]
        congr 2
        show [V.int a, V.int b, V.int c, V.int d, V.int e] = [V.int (a.toNat : Nat), V.int (b.toNat : Nat), V.int (c.toNat : Nat), V.int (d.toNat : Nat), V.int (e.toNat : Nat)]
        rw [Int.toNat_of_nonneg (by omega), Int.toNat_of_nonneg (by omega), Int.toNat_of_nonneg (by omega), Int.toNat_of_nonneg (by omega), Int.toNat_of_nonneg (by omega)]
      all_goals (simp only []; omega)

theorem sc__law_given : FnScope ["rng", "many", "top", "names_here", "found", "some", "spot", "label", "low"] ["rng", "many", "top"] (defScope s__law_given) := ⟨rfl, rfl, rfl, by decide +kernel, rfl, by decide +kernel, by decide +kernel⟩
theorem ok__law_given (D : Df K mg "_law_given" s__law_given ["rng", "many", "top"] f fd) (c1 : Cl P w K mg base 1 "_law_draw" ["rng", "limit"] spDraw) (cra : mg "range" = none) : FnG P w K mg base CX0 2 f fd ["rng", "many", "top"] spGiven := by
  refine df_ok D sc__law_given (fun vs H Q E h => by obtain ⟨r, many, top, n, rfl, _⟩ := h; rfl) (fun cdv A outer s H vs Q E hG hr h => ?_)
  obtain ⟨r, many, top, n, rfl, hm8, t0, t1, hn, g0, hQ⟩ := h
  have nd := sc__law_given.nd
  refine ⟨_, pss_cons (ps_par (i := 3) (j := 4) rfl nd rfl rfl (by decide) rfl rfl (pa_cons (pe_lst (pa_cons pe_str (pa_cons pe_str (pa_cons pe_str (pa_cons pe_str (pa_cons pe_str (pa_cons pe_str (pa_cons pe_str (pa_cons pe_str pa_nil))))))))) (pa_cons (pe_lst pa_nil) pa_nil)) (by rfl))
    (pss_cons (ps_set (i := 5) nd rfl (.inl rfl) (pe_lst (pa_cons pe_str (pa_cons pe_str (pa_cons pe_str (pa_cons pe_str (pa_cons pe_str (pa_cons pe_str (pa_cons pe_str (pa_cons pe_str (pa_cons pe_str (pa_cons pe_str (pa_cons pe_str pa_nil)))))))))))))
    (pss_cons (ps_for PassesOwn.never rfl (pi_range1 (by rfl) cra (pa_cons (pv 1) pa_nil)) (pg_name (i := 6) nd rfl (.inl rfl))
      (pss_cons (ps_par (i := 7) (j := 8) rfl nd rfl rfl (by decide) rfl rfl (pa_cons (pe_ix ix_list (pv 5) (pe_cl c1 hG hr rfl (pa_cons (pv 0) (pa_cons pe_int pa_nil))) (fun _ _ => rfl)) (pa_cons (pe_cl c1 hG hr rfl (pa_cons (pv 0) (pa_cons (pe_op op_add pe_int (pe_op op_fdiv (pv 2) pe_int)) pa_nil))) pa_nil)) (by rfl))
      (pss_cut (ps_if (PW.pt (pw_and (pt_cmpR op_ne (pe_ix ix_str (pv 7) pe_int (fun _ _ => rfl)) pe_str (nomark _)) (pw_and1 (pt_cmpR op_eq (pe_cl c1 hG hr rfl (pa_cons (pv 0) (pa_cons pe_int pa_nil))) pe_int (nomark _)))))
          (pss_one (ps_set (i := 8) nd rfl (.inl rfl) (pe_op op_sub pe_int (pe_cl c1 hG hr rfl (pa_cons (pv 0) (pa_cons (pe_op op_add pe_int (pv 2)) pa_nil)))))) pss_nil)
      (pss_one (ps_expr (pe_bm PySem.F.plainAttrs_list PySem.F.slot_list_append PySem.F.type_list_append mt_append (pv 4) (pa_cons (pe_tup (pa_cons (pe_ix ix_list (pv 3) (pv 6) (fun _ _ => rfl)) (pa_cons (pv 7) (pa_cons (pv 8) (pa_cons (pe_op op_add (pv 8) (pe_cl c1 hG hr rfl (pa_cons (pv 0) (pa_cons (pe_op op_add pe_int (pe_op op_fdiv (pv 2) pe_int)) pa_nil)))) pa_nil))))) pa_nil)))))))
    (pss_one (ps_ret (pv 4))))), ?_⟩
  refine par_raw (ea_atL (xs := names8.map V.str) (el_lst (ea_cons ev_c (ea_cons ev_c (ea_cons ev_c (ea_cons ev_c (ea_cons ev_c (ea_cons ev_c (ea_cons ev_c (ea_cons ev_c ea_nil)))))))) (by decide)) fun ln H1 n1 e1 h1 => ea_atL (el_lst ea_nil (by decide)) fun l H2 n2 e2 h2 => ⟨_, _, rfl, ?_⟩)
  dsimp only [List.set]
  refine q_asgL (xs := vKINDS) (el_lst (ea_cons ev_c (ea_cons ev_c (ea_cons ev_c (ea_cons ev_c (ea_cons ev_c (ea_cons ev_c (ea_cons ev_c (ea_cons ev_c (ea_cons ev_c (ea_cons ev_c (ea_cons ev_c ea_nil))))))))))) (by decide)) fun lk H3 n3 e3 h3 => ?_
  obtain ⟨nl, nlr⟩ := fresh_bu (Bu.of e1) (g0.ex e1) n2
  obtain ⟨_, nnr⟩ := fresh_bu (Bu.refl r H) g0 n1
  obtain ⟨_, nkr⟩ := fresh_bu (Bu.of (e1.trans e2)) (g0.ex (e1.trans e2)) n3
  have nnl : ln ≠ l := fun z => by rw [z, n2] at h1; exact nomatch h1
  have nkl : lk ≠ l := fun z => by rw [z, h2] at n3; exact nomatch n3
  refine q_forR1 (n := (many : Nat)) (ea_cons (ev_var rfl) ea_nil) (by omega) (fun i σ G => Bu r H G ∧ Rng G r (n + 5 * i) ∧ G ln = some (.lst (names8.map V.str)) ∧ G lk = some (.lst vKINDS) ∧ ∃ (rows : List Row) (y6 y7 y8 : Option V), σ = [some (.ref r), some (.int (many : Nat)), some (.int top), some (.ref ln), some (.ref l), some (.ref lk), y6, y7, y8] ∧ VarsAt G l rows ∧ rows.map Row.name = names8.take i ∧ ∀ w ∈ rows, w.Fit) ?_ ?_ ?_
  · exact fun G e => ⟨Bu.of (((e1.trans e2).trans e3).trans e), g0.ex (((e1.trans e2).trans e3).trans e), e _ _ (e3 _ _ (e2 _ _ h1)), e _ _ h3, [], none, none, none, rfl, ⟨[], e _ _ (e3 _ _ h2), rfl, fun j w q => nomatch q⟩, rfl, fun w h => nomatch h⟩
  · intro i σ G hi hp
    obtain ⟨bu, g, hn', hk', rows, y6, y7, y8, rfl, hV, hN, hF⟩ := hp
    have hi8 : i < 8 := by omega
    dsimp only [gName, List.set]
    refine par_raw (?_ : tCons (tOp _ _ _) _ _ _ _)
    refine (?_ : tOp _ _ _ _ _ _)
    refine op_raw ⟨_, rfl, draw_at (l := 11) (n := n + 5 * i) (ea_cons (ev_var rfl) (ea_cons ev_c ea_nil)) (by decide) (log_small (by decide)) (by omega) g fun G1 v b1 g1 v0 v1 => ?_⟩
    obtain ⟨q, rfl⟩ : ∃ q : Nat, v = (q : Int) := ⟨v.toNat, by omega⟩
    have hq : q < vKINDS.length := by
      show q < 11
      omega
    obtain ⟨kd, _, ek⟩ := kd_at (List.getElem?_eq_getElem hq)
    refine ⟨lk, vKINDS, (q : Int), kd.v, rfl, rfl, sq_of (b1 _ _ nkr hk'), atI_nat (by rw [List.getElem?_eq_getElem hq, ek]), ?_⟩
    refine draw_at (l := 1 + top / 2) (n := n + 5 * i + 1) (ea_cons (ev_var rfl) (ea_cons (ev_op ev_c (ev_op (ev_var rfl) ev_c (rv_I ⟨by decide, by decide⟩)) rv_I0) ea_nil)) (by omega) (log_small (by omega)) (by omega) g1 fun G2 low b2 g2 l0 l1 => ⟨_, _, rfl, ?_⟩
    dsimp only [List.set]
    have b02 := b1.trans b2
    refine q_cut (M := fun σ' G' => ∃ lo : Int, -top ≤ lo ∧ lo ≤ top ∧ Bu r G2 G' ∧ Rng G' r (n + 5 * i + 4) ∧ σ' = [some (.ref r), some (.int (many : Nat)), some (.int top), some (.ref ln), some (.ref l), some (.ref lk), some (.int (i : Int)), some kd.v, some (.int lo)]) ?_ ?_
    · obtain ⟨c, hc⟩ : ∃ c, atI kd.s.cps.toList 0 = some c := by cases kd <;> exact ⟨_, rfl⟩
      refine if_raw ((et_test (ev_op (ev_op (ev_var rfl) ev_c (rv_ixS (by cases kd <;> decide) hc)) ev_c (rv_ne rfl))) G2 (Ex.refl G2) _ fun G3 e3 => ?_)
      cases hb : (!decide (V.str ⟨#[c]⟩ = V.str "u")) with
      | false => exact if_false_of_ rfl (if_false_of_ rfl ⟨low, by omega, by omega, Bu.of e3, (g2.ex e3).le (by omega), rfl⟩)
      | true =>
        refine if_true_of_ rfl (test_raw (op_raw (draw_at (l := 2) (n := n + 5 * i + 2) (ea_cons (ev_var rfl) (ea_cons ev_c ea_nil)) (by decide) (log_small (by decide)) (by omega) (g2.ex e3) fun G4 z b4 g4 z0 z1 => ⟨rfl, decide (V.int z = V.int 0), rfl, ?_⟩)))
        by_cases hz : z = 0
        · refine if_true_of_ (decide_eq_true (by rw [hz])) (?_ : tOp _ _ _ _ _ _)
          refine op_raw (?_ : tCall _ _ _ _ _ _ _)
          refine draw_at (l := 1 + top) (n := n + 5 * i + 3) (ea_cons (ev_var rfl) (ea_cons (ev_op ev_c (ev_var rfl) rv_I0) ea_nil)) (by omega) (log_small (by omega)) (by omega) g4 fun G5 u b5 g5 u0 u1 => ⟨0, u, rfl, rfl, 0 - u, by omega, by omega, ((Bu.of e3).trans b4).trans b5, g5.le (by omega), rfl⟩
        · exact if_false_of_ (decide_eq_false fun q => hz (V.int.inj q)) ⟨low, by omega, by omega, (Bu.of e3).trans b4, g4.le (by omega), rfl⟩
    intro σ' G6 hM
    obtain ⟨lo, lo0, lo1, b6, g6, rfl⟩ := hM
    have bA := b02.trans b6
    have hVA := hV.bu nlr g bA
    obtain ⟨ps, hps, _, _⟩ := id hVA
    have hnA := bA _ _ nnr hn'
    have hnm : (names8.map V.str)[i]? = some (.str (names8.getD i "")) := by
      rw [List.getElem?_map, List.getElem?_eq_getElem (show i < names8.length from hi8), List.getD_eq_getElem?_getD, List.getElem?_eq_getElem (show i < names8.length from hi8)]
      rfl
    refine (?_ : tBM _ _ _ _ _ _ _ _)
    refine app_raw (i := 4) rfl hps (?_ : tTup _ _ _ _)
    refine tup_raw (ea_at (ev_op (ev_var rfl) (ev_var rfl) (rv_ixL (sq_of hnA) (atI_nat hnm))) fun G7 e7 => ea_at (ev_var rfl) fun G8 e8 => ea_at (ev_var rfl) fun G9 e9 => ?_)
    have e79 := (e7.trans e8).trans e9
    refine (?_ : tOp _ _ _ _ _ _)
    refine op_raw ⟨_, rfl, draw_at (l := 1 + top / 2) (n := n + 5 * i + 4) (ea_cons (ev_var rfl) (ea_cons (ev_op ev_c (ev_op (ev_var rfl) ev_c (rv_I ⟨by decide, by decide⟩)) rv_I0) ea_nil)) (by omega) (log_small (by omega)) (by omega) (g6.ex e79) fun G10 d b10 g10 d0 d1 => ⟨lo, d, rfl, rfl, by show 4 ≤ sizeLine; decide, fun p np => ?_⟩⟩
    have eN : Ex G10 (upd G10 p (.tup [.str (names8.getD i ""), kd.v, .int lo, .int (lo + d)])) := Ex.new np
    have bB : Bu r G6 (upd G10 p (.tup [.str (names8.getD i ""), kd.v, .int lo, .int (lo + d)])) := ((Bu.of e79).trans b10).trans (Bu.of eN)
    have hpsB := bB _ _ nlr hps
    have hVB := hVA.bu nlr g6 bB
    have gB := g10.ex eN
    have hpB : (upd G10 p (.tup [.str (names8.getD i ""), kd.v, .int lo, .int (lo + d)])) p = some (.tup (Row.vs ⟨names8.getD i "", kd, lo, lo + d⟩)) := upd_same
    have bAll := bu.trans (bA.trans bB)
    have hnB := bB _ _ nnr hnA
    have hkB := (bA.trans bB) _ _ nkr hk'
    generalize upd G10 p (.tup [.str (names8.getD i ""), kd.v, .int lo, .int (lo + d)]) = G11 at hpsB hVB gB hpB bAll hnB hkB ⊢
    have pl : (ps.map V.ref).length < sizeLine := by
      have h1 := congrArg List.length hN
      rw [List.length_map, List.length_take] at h1
      obtain ⟨qs, q1, q2, _⟩ := hVA
      rw [hps] at q1
      have := HO.lst.inj (Option.some.inj q1)
      rw [this, List.length_map]
      exact sz_lt (by omega)
    refine ⟨l, ps.map V.ref, .ref p, rfl, rfl, hpsB, pl, fun b o nb q => ?_, ?_, by rw [upd_ne nnl]; exact hnB, by rw [upd_ne nkl]; exact hkB, rows ++ [⟨names8.getD i "", kd, lo, lo + d⟩], _, _, _, rfl, hVB.add hpsB hpB, ?_, fun w hw => ?_⟩
    · rw [upd_ne (fun z => by rw [z, nl] at q; exact nomatch q)]
      exact bAll _ _ nb q
    · obtain ⟨d', s2, c, z1, z2⟩ := gB
      exact Rng.le ⟨d', s2, c, by rw [upd_ne (Ne.symm nlr)]; exact z1, z2⟩ (by omega)
    · rw [List.map_append, hN, List.take_add_one, List.getElem?_eq_getElem (show i < names8.length from hi8)]
      rw [List.getD_eq_getElem?_getD, List.getElem?_eq_getElem (show i < names8.length from hi8)]
      rfl
    · rcases List.mem_append.mp hw with h | h
      · exact hF w h
      · simp only [List.mem_cons, List.not_mem_nil, or_false] at h
        rw [h]
        exact ⟨by show lo ≤ lo + d; omega, by show lo.natAbs < 2 ^ 130; omega, by show (lo + d).natAbs < 2 ^ 130; omega⟩
  · intro σ G hp
    obtain ⟨bu, g, hn', hk', rows, y6, y7, y8, rfl, hV, hN, hF⟩ := hp
    exact s_ret (ev_var rfl) fun G1 e => hQ l rows G1 (bu.trans (Bu.of e)) ((g.ex e).le (by omega)) nl nlr (hV.ex e) hN hF

theorem sc__law_leaf : FnScope ["rng", "free", "left", "top"] ["rng", "free", "left", "top"] (defScope s__law_leaf) := ⟨rfl, rfl, rfl, by decide +kernel, rfl, by decide +kernel, by decide +kernel⟩
theorem ok__law_leaf (D : Df K mg "_law_leaf" s__law_leaf ["rng", "free", "left", "top"] f fd) (c1 : Cl P w K mg base 1 "_law_draw" ["rng", "limit"] spDraw) (cle : mg "len" = none) : FnG P w K mg base CX0 2 f fd ["rng", "free", "left", "top"] spLeaf := by
  refine df_ok D sc__law_leaf (fun vs H Q E h => by obtain ⟨r, a, b, top, n, xs, m, rfl, _⟩ := h; rfl) (fun cdv A outer s H vs Q E hG hr h => ?_)
  obtain ⟨r, a, b, top, n, xs, m, rfl, t0, t1, hn, o0, hx8, hm8, h1, hQ⟩ := h
  have hu := hr.units
  refine ⟨_, (pss_cons (ps_if (PW.pt (pw_and (pt_cmpR (op_neD hu) (pv 1) (pe_lst pa_nil) (nomark _)) (pw_and1 (PW.pt (pw_or (pt_cmpR (op_eqD hu) (pv 2) (pe_lst pa_nil) (nomark _)) (pw_or1 (pt_cmpR op_gt (pe_cl c1 hG hr rfl (pa_cons (pv 0) (pa_cons pe_int pa_nil))) pe_int (nomark _))))))))
        (pss_one (ps_ret (pe_tup (pa_cons pe_str (pa_cons (pe_bm PySem.F.plainAttrs_list PySem.F.slot_list_pop PySem.F.type_list_pop mt_popAt (pv 1) (pa_cons (pe_cl c1 hG hr rfl (pa_cons (pv 0) (pa_cons (pe_callB call_len_seq (by rfl) cle (by decide +kernel) (pa_cons (pv 1) pa_nil)) pa_nil))) pa_nil)) pa_nil))))) pss_nil) (pss_cons (ps_expr (pe_bm0 PySem.F.plainAttrs_list PySem.F.slot_list_pop PySem.F.type_list_pop mt_pop (pv 2))) (pss_one (ps_ret (pe_tup (pa_cons pe_str (pa_cons (pe_ix ix_list (pe_lst (pa_cons (pe_cl c1 hG hr rfl (pa_cons (pv 0) (pa_cons pe_int pa_nil))) (pa_cons (pe_cl c1 hG hr rfl (pa_cons (pv 0) (pa_cons (pe_op op_add pe_int (pv 3)) pa_nil))) pa_nil))) (pe_cl c1 hG hr rfl (pa_cons (pv 0) (pa_cons pe_int pa_nil))) (fun _ _ => rfl)) (pa_cons (pe_ix ix_list (pe_lst (pa_cons pe_str (pa_cons pe_str (pa_cons pe_str (pa_cons pe_str (pa_cons pe_str (pa_cons pe_str (pa_cons pe_str pa_nil)))))))) (pe_cl c1 hG hr rfl (pa_cons (pv 0) (pa_cons pe_int pa_nil))) (fun _ _ => rfl)) pa_nil)))))))), ?_⟩
  have dF : ∀ H1, Ex H H1 → Dp K H1 (.ref a) (.list (xs.map PyData.str)) := fun H1 e => .lst (sq_of (e _ _ o0.f)) (dp_strs xs)
  have dL : ∀ H1, Ex H H1 → Dp K H1 (.ref b) (.list (List.replicate m (.int 0))) := fun H1 e => .lst (sq_of (e _ _ o0.l)) (dp_zeros m)
  have hxl : (xs.map V.str).length = xs.length := List.length_map ..
  refine if_raw (cond_go (fun c H1 => Bu r H H1 ∧ Rng H1 r (n + 1) ∧ (c = true → xs ≠ []) ∧ (c = false → 0 < m)) (fun KK hK => ?_) (fun c H1 hP => ?_))
  · by_cases hx : xs = []
    · refine (et_is (et_and (a := false) (b := false) (et_is (et_test (ev_neE (ev_var rfl) (el_lst ea_nil (by decide)) dF (strs_shaped o0.ok))) (by rw [strs_nil, hx]; rfl)) (fun z => nomatch z)) (show (false && false) = false from rfl)) H (Ex.refl H) _ fun H1 e => hK false _ ⟨Bu.of e, (o0.g.ex e).le (by omega), (fun z => nomatch z), fun _ => ?_⟩
      rw [hx] at h1
      simp at h1
      omega
    · refine and_raw ((et_test (ev_neE (ev_var rfl) (el_lst ea_nil (by decide)) dF (strs_shaped o0.ok))) H (Ex.refl H) _ fun H1 e1 => ?_)
      rw [strs_nil, if_pos (by rw [decide_eq_false hx]; rfl)]
      refine or_raw ((et_test (ev_eqE (ev_var rfl) (el_lst ea_nil (by decide)) (fun H2 e2 => dL H2 (e1.trans e2)) (zeros_shaped m))) H1 (Ex.refl H1) _ fun H2 e2 => ?_)
      rw [zeros_nil]
      by_cases hm : m = 0
      · rw [if_pos (decide_eq_true hm)]
        exact hK _ _ ⟨Bu.of (e1.trans e2), (o0.g.ex (e1.trans e2)).le (by omega), fun _ => hx, (fun z => nomatch z)⟩
      · rw [if_neg (by rw [decide_eq_false hm]; decide)]
        refine test_raw (op_raw (draw_at (l := 3) (n := n) (ea_cons (ev_var rfl) (ea_cons ev_c ea_nil)) (by decide) (log_small (by decide)) (by omega) (o0.g.ex (e1.trans e2)) fun H3 v b3 g3 v0 v1 => ⟨_, _, rfl, rfl, _, rfl, hK _ _ ⟨(Bu.of (e1.trans e2)).trans b3, g3, fun _ => hx, fun _ => by omega⟩⟩))
  obtain ⟨bu, g1, p1, p2⟩ := hP
  have o1 := o0.bu bu g1
  cases c with
  | true =>
    rw [if_pos rfl]
    have hx := p1 rfl
    have hpos : 0 < xs.length := List.length_pos_iff.mpr hx
    refine ret_raw (tup_raw (ea_at ev_c fun H2 e2 => ?_))
    have o2 := o1.ex e2
    refine (?_ : tBM _ _ _ _ _ _ _ _)
    refine pop_raw (i := 1) rfl o2.f (?_ : tCons _ _ _ _ _)
    refine (?_ : tCall _ _ _ _ _ _ _)
    refine draw_at (l := (xs.length : Int)) (n := n + 1) (ea_cons (ev_var rfl) (ea_cons (ev_is (ev_len (ev_var rfl) (sq_of o2.f)) (by rw [hxl])) ea_nil)) (by omega) (log_small (by omega)) (by omega) o2.g fun H3 v b3 g3 v0 v1 => ?_
    obtain ⟨k, rfl⟩ : ∃ k : Nat, v = (k : Int) := ⟨v.toNat, by omega⟩
    have hk : k < xs.length := by omega
    have o3 := o2.bu b3 g3
    refine ⟨a, xs.map V.str, (k : Int), k, .str xs[k], rfl, rfl, o3.f, by omega, by omega, seq_ix (by rw [hxl]; exact hk), by rw [List.getElem?_map, List.getElem?_eq_getElem hk]; rfl, by show 2 ≤ sizeLine; decide, fun p np => ?_⟩
    have nf : a ≠ p := fun z => by
      rw [z, upd_same] at np
      exact nomatch np
    have hp0 : H3 p = none := by rw [upd_ne (Ne.symm nf)] at np; exact np
    have nr : r ≠ p := fun z => by
      obtain ⟨d, s2, c, q, _⟩ := o3.g
      rw [← z, q] at hp0
      exact nomatch hp0
    have nb : b ≠ p := fun z => by
      rw [← z, o3.l] at hp0
      exact nomatch hp0
    refine hQ p (.var xs[k]) (xs.eraseIdx k) m _ (fun q o q1 q2 q3 h => ?_) ⟨?_, ?_, ?_, o3.ar, o3.br, o3.ab, fun x hx2 => o3.ok x (List.mem_of_mem_eraseIdx hx2)⟩ upd_same rfl ⟨trivial, erase_perm xs k hk, ?_, Nat.le_refl _⟩ rfl
    · have h3 := b3 _ _ q1 (e2 _ _ (bu _ _ q1 h))
      rw [upd_ne (ne_of_none h3 hp0), upd_ne q2]
      exact h3
    · obtain ⟨d, s2, c, z1, z2⟩ := o3.g
      exact Rng.le ⟨d, s2, c, by rw [upd_ne nr, upd_ne (Ne.symm o3.ar)]; exact z1, z2⟩ (by omega)
    · rw [upd_ne nf, upd_same, erase_map]
    · rw [upd_ne nb, upd_ne (Ne.symm o3.ab)]
      exact o3.l
    · rw [List.length_eraseIdx_of_lt hk]
      show 1 + (xs.length - 1) + m = _
      omega
  | false =>
    rw [if_neg (by decide)]
    have hm := p2 rfl
    obtain ⟨m', rfl⟩ : ∃ m', m = m' + 1 := ⟨m - 1, by omega⟩
    refine next_raw ?_
    dsimp only
    refine (?_ : tBM0 _ _ _ _ _ _ _)
    refine pop0_raw (i := 2) rfl o1.l ⟨b, _, _, rfl, rfl, o1.l, rep_last m', ?_⟩
    rw [rep_drop]
    have o2 : Pool (upd H1 b (.lst (List.replicate m' (.int 0)))) r a b (n + 1) xs m' := by
      obtain ⟨d, s2, c, z1, z2⟩ := o1.g
      exact ⟨⟨d, s2, c, by rw [upd_ne (Ne.symm o1.br)]; exact z1, z2⟩, by rw [upd_ne o1.ab]; exact o1.f, upd_same, o1.ar, o1.br, o1.ab, o1.ok⟩
    have b2 : Bs r a b H (upd H1 b (.lst (List.replicate m' (.int 0)))) := fun q o q1 q2 q3 h => by
      rw [upd_ne q3]
      exact bu _ _ q1 h
    generalize upd H1 b (.lst (List.replicate m' (.int 0))) = H2 at o2 b2 ⊢
    dsimp only
    refine ret_raw (tup_raw (ea_at ev_c fun H3 e3 => ?_))
    have o3 := o2.ex e3
    refine (?_ : tOp _ _ _ _ _ _)
    refine op_raw (lst_raw ?_)
    refine draw_at (l := 4) (n := n + 1) (ea_cons (ev_var rfl) (ea_cons ev_c ea_nil)) (by decide) (log_small (by decide)) (by omega) o3.g fun H4 v b4 g4 v0 v1 => ?_
    refine draw_at (l := 1 + top) (n := n + 2) (ea_cons (ev_var rfl) (ea_cons (ev_op ev_c (ev_var rfl) rv_I0) ea_nil)) (by omega) (log_small (by omega)) (by omega) g4 fun H5 u b5 g5 u0 u1 => ⟨by show 2 ≤ sizeLine; decide, fun l nl => ?_⟩
    have o5 := o3.bu (b4.trans b5) g5
    have e6 : Ex H5 (upd H5 l (.lst [.int v, .int u])) := Ex.new nl
    have nlr : l ≠ r := fun z => by
      obtain ⟨d, s2, c, q, _⟩ := o5.g
      rw [z, q] at nl
      exact nomatch nl
    have hl6 : (upd H5 l (.lst [.int v, .int u])) l = some (.lst [.int v, .int u]) := upd_same
    have o6 := o5.ex e6
    have b6 := (b4.trans b5).trans (Bu.of e6)
    generalize upd H5 l (.lst [.int v, .int u]) = H6 at e6 hl6 o6 b6 ⊢
    refine draw_at (l := 2) (n := n + 3) (ea_cons (ev_var rfl) (ea_cons ev_c ea_nil)) (by decide) (log_small (by decide)) (by omega) o6.g fun H7 w b7 g7 w0 w1 => ?_
    obtain ⟨num, hnum, num0, num1⟩ : ∃ num : Int, atI [V.int v, V.int u] w = some (.int num) ∧ 0 ≤ num ∧ num < 2 ^ 130 := by
      have hw : w = 0 ∨ w = 1 := by omega
      rcases hw with rfl | rfl
      · exact ⟨v, atI_nat (j := 0) rfl, v0, by omega⟩
      · exact ⟨u, atI_nat (j := 1) rfl, u0, by omega⟩
    refine ⟨l, _, w, .int num, rfl, rfl, sq_of (b7 _ _ nlr hl6), hnum, ?_⟩
    have o7 := o6.bu b7 g7
    refine (?_ : tOp _ _ _ _ _ _)
    refine op_raw ((el_lst (vs := sufsL) (ea_cons ev_c (ea_cons ev_c (ea_cons ev_c (ea_cons ev_c (ea_cons ev_c (ea_cons ev_c (ea_cons ev_c ea_nil))))))) (by decide)) H7 (Ex.refl H7) _ fun t H8 nt e8 ht => ?_)
    have o8 := o7.ex e8
    have ntr : t ≠ r := fun z => by
      obtain ⟨d, s2, c, q, _⟩ := o7.g
      rw [z, q] at nt
      exact nomatch nt
    refine draw_at (l := 7) (n := n + 4) (ea_cons (ev_var rfl) (ea_cons ev_c ea_nil)) (by decide) (log_small (by decide)) (by omega) o8.g fun H9 k b9 g9 k0 k1 => ?_
    obtain ⟨j, rfl⟩ : ∃ j : Nat, k = (j : Int) := ⟨k.toNat, by omega⟩
    obtain ⟨suf, hs1, hs2⟩ := suf_at (j := j) (by omega)
    have o9 := o8.bu b9 g9
    refine ⟨t, sufsL, (j : Int), .str suf, rfl, rfl, sq_of (b9 _ _ ntr ht), atI_nat hs1, by show 3 ≤ sizeLine; decide, fun p np => ?_⟩
    have eN : Ex H9 (upd H9 p (.tup [.str "lit", .int num, .str suf])) := Ex.new np
    refine hQ p (.lit num suf) xs m' _ ((b2.trans (Bs.of e3)).trans ((Bs.bu b6).trans ((Bs.bu b7).trans ((Bs.of e8).trans ((Bs.bu b9).trans (Bs.of eN)))))) (o9.ex eN) upd_same rfl ⟨⟨num0, num1, hs2⟩, List.Perm.refl _, ?_, Nat.le_refl _⟩ rfl
    show 1 + xs.length + m' = _
    omega

theorem sc__law_one : FnScope ["rng", "free", "left", "span", "top", "some", "pick", "inner"] ["rng", "free", "left", "span", "top"] (defScope s__law_one) := ⟨rfl, rfl, rfl, by decide +kernel, rfl, by decide +kernel, by decide +kernel⟩
theorem step__law_one {s k : Nat} (D : Df K mg "_law_one" s__law_one ["rng", "free", "left", "span", "top"] f fd) (hk1 : 1 ≤ k) (c1 : Cl P w K mg base 1 "_law_draw" ["rng", "limit"] spDraw) (c2 : Cl P w K mg base k "_law_tree" ["rng", "free", "left", "span", "top"] (spTree true 1 0 s)) : FnG P w K mg base CX0 (k + 1) f fd ["rng", "free", "left", "span", "top"] (spTree true 2 4 (s + 1)) := by
  refine df_ok D sc__law_one (fun vs H Q E h => by obtain ⟨r, a, b, span, top, n, xs, m, rfl, _⟩ := h; rfl) (fun cdv A outer s H vs Q E hG hr h => ?_)
  obtain ⟨r, a, b, span, top, n, xs, m, rfl, hs1, hs2, hs3, t0, t1, hn, o0, hx8, hm8, h5, hQ⟩ := h
  have nd := sc__law_one.nd
  refine ⟨_, pss_cons (ps_set (i := 5) nd rfl (.inl rfl) (pe_lst (pa_cons pe_str (pa_cons pe_str (pa_cons pe_str (pa_cons pe_str (pa_cons pe_str (pa_cons pe_str (pa_cons pe_str (pa_cons pe_str (pa_cons pe_str (pa_cons pe_str (pa_cons pe_str pa_nil)))))))))))))
    (pss_cons (ps_par (i := 6) (j := 7) rfl nd rfl rfl (by decide) rfl rfl (pa_cons (pe_cl c1 hG hr rfl (pa_cons (pv 0) (pa_cons pe_int pa_nil)) hk1) (pa_cons (pe_cl c2 hG hr rfl (pa_cons (pv 0) (pa_cons (pv 1) (pa_cons (pv 2) (pa_cons (pe_op op_sub (pv 3) pe_int) (pa_cons (pv 4) pa_nil))))) (Nat.le_refl _)) pa_nil)) (by rfl))
    (pss_cons (ps_if (pt_cmpR op_lt (pv 6) pe_int (nomark _)) (pss_one (ps_ret (pe_tup (pa_cons pe_str (pa_cons (pe_ix ix_list (pv 5) (pe_cl c1 hG hr rfl (pa_cons (pv 0) (pa_cons pe_int pa_nil)) hk1) (fun _ _ => rfl)) (pa_cons (pv 7) pa_nil)))))) pss_nil)
    (pss_cons (ps_if (pt_cmpR op_eq (pv 6) pe_int (nomark _)) (pss_one (ps_ret (pe_tup (pa_cons pe_str (pa_cons (pv 7) pa_nil))))) pss_nil)
    (pss_one (ps_ret (pe_tup (pa_cons (pe_ix ix_list (pe_lst (pa_cons pe_str (pa_cons pe_str pa_nil))) (pe_op op_sub (pv 6) pe_int) (fun _ _ => rfl)) (pa_cons (pv 7) (pa_cons (pe_cl c1 hG hr rfl (pa_cons (pv 0) (pa_cons pe_int pa_nil)) hk1) pa_nil))))))))), ?_⟩
  refine q_asgL (xs := vKINDS) (el_lst (ea_cons ev_c (ea_cons ev_c (ea_cons ev_c (ea_cons ev_c (ea_cons ev_c (ea_cons ev_c (ea_cons ev_c (ea_cons ev_c (ea_cons ev_c (ea_cons ev_c (ea_cons ev_c ea_nil))))))))))) (by decide)) fun lk H1 n1 e1 h1 => ?_
  obtain ⟨lkr, lka, lkb⟩ := o0.fr n1
  have o1 := o0.ex e1
  refine par_raw (?_ : tCons _ _ _ _ _)
  refine draw_at (l := 5) (n := n) (ea_cons (ev_var rfl) (ea_cons ev_c ea_nil)) (by decide) (log_small (by decide)) (by omega) o1.g fun H2 v b2 g2 v0 v1 => ?_
  have o2 := o1.bu b2 g2
  refine (?_ : tCall _ _ _ _ _ _ _)
  refine tree_at (span := span - 1) (n := n + 1) (xs := xs) (m := m) (ea_cons (ev_var rfl) (ea_cons (ev_var rfl) (ea_cons (ev_var rfl) (ea_cons (ev_is (ev_op (ev_var rfl) ev_c rv_I0) (by congr 1; omega)) (ea_cons (ev_var rfl) ea_nil))))) (by omega) (by omega) (by omega) t0 t1 (by omega) o2 hx8 hm8 (by omega) fun q nd ys m' H3 b3 o3 tr isE tk lv => ⟨_, _, rfl, ?_⟩
  dsimp only [List.set]
  have hk3 := b3 _ _ lkr lka lkb (b2 _ _ lkr h1)
  have b03 := (Bs.of e1).trans ((Bs.bu b2).trans b3)
  have fin : ∀ p (N : Nd) H', Bs r a b H3 H' → Pool H' r a b (n + 6 * span - 4) ys m' → TreeAt H' p N → N.isE = true → N.wf → N.vars = nd.vars → N.leaves = nd.leaves → N.size = 1 + nd.size → Q (.ref p) H' := fun p N H' bs o tA iE wf v l z => by
    refine hQ p N ys m' H' (b03.trans bs) o tA iE ⟨wf, by rw [v]; exact tk.vs, by rw [l]; exact tk.lv, by have := tk.sz; omega⟩ ?_
    rw [l, if_pos rfl]
    rw [if_pos rfl] at lv
    omega
  by_cases p2 : v < 2
  · refine q_when (et_is (et_test (ev_op (ev_var rfl) ev_c rv_I0)) (decide_eq_true p2)) (fun _ H4 e4 => ?_) (fun z => nomatch z)
    have o4 := o3.ex e4
    refine ret_raw (tup_raw (ea_at ev_c fun H5 e5 => ?_))
    have o5 := o4.ex e5
    refine (?_ : tOp _ _ _ _ _ _)
    refine op_raw ⟨_, rfl, draw_at (l := 11) (n := n + 1 + 6 * (span - 1) - 0) (ea_cons (ev_var rfl) (ea_cons ev_c ea_nil)) (by decide) (log_small (by decide)) (by omega) o5.g fun H6 u b6 g6 u0 u1 => ?_⟩
    obtain ⟨j, rfl⟩ : ∃ j : Nat, u = (j : Int) := ⟨u.toNat, by omega⟩
    have hj : j < vKINDS.length := by
      show j < 11
      omega
    obtain ⟨kd, _, ek⟩ := kd_at (List.getElem?_eq_getElem hj)
    refine ⟨lk, vKINDS, (j : Int), kd.v, rfl, rfl, sq_of (b6 _ _ lkr (e5 _ _ (e4 _ _ hk3))), atI_nat (by rw [List.getElem?_eq_getElem hj, ek]), _, rfl, by show 3 ≤ sizeLine; decide, fun p np => ?_⟩
    have eN : Ex H6 (upd H6 p (.tup [.str "cast", kd.v, .ref q])) := Ex.new np
    refine fin p (.cast kd nd) _ ((Bs.of (e4.trans e5)).trans ((Bs.bu b6).trans (Bs.of eN))) (((o5.bu b6 g6).ex eN).le (by omega)) ⟨q, upd_same, ((tr.ex (e4.trans e5)).tk (TupK.bu b6 o5.g)).ex eN⟩ rfl ⟨isE, tk.wf⟩ rfl rfl rfl
  · refine q_when (et_is (et_test (ev_op (ev_var rfl) ev_c rv_I0)) (decide_eq_false p2)) (fun z => nomatch z) (fun _ H4 e4 => ?_)
    by_cases p3 : v = 2
    · refine q_when (et_is (et_test (ev_op (ev_var rfl) ev_c (rv_eq rfl))) (decide_eq_true (by rw [p3]))) (fun _ H5 e5 => ?_) (fun z => nomatch z)
      refine s_retU (eu_tup (ea_cons ev_c (ea_cons (ev_var rfl) ea_nil)) (by simp)) fun p H6 np e6 h6 => ?_
      have e := (e4.trans e5).trans e6
      exact fin p (.neg nd) _ (Bs.of e) ((o3.ex e).le (by omega)) ⟨q, h6, tr.ex e⟩ rfl ⟨isE, tk.wf⟩ rfl rfl rfl
    · refine q_when (et_is (et_test (ev_op (ev_var rfl) ev_c (rv_eq rfl))) (decide_eq_false fun z => p3 (V.int.inj z))) (fun z => nomatch z) (fun _ H5 e5 => ?_)
      obtain ⟨lf, hlf, hix⟩ : ∃ lf : Bool, atI [V.str "shl", V.str "shr"] (v - 3) = some (.str (shS lf)) ∧ (v = 3 ∨ v = 4) := by
        have hv : v = 3 ∨ v = 4 := by omega
        rcases hv with rfl | rfl
        · exact ⟨true, by decide +kernel, .inl rfl⟩
        · exact ⟨false, by decide +kernel, .inr rfl⟩
      refine ret_raw (tup_raw (ea_at (ev_opL1 (xs := [.str "shl", .str "shr"]) (y := .int (v - 3)) (el_lst (ea_cons ev_c (ea_cons ev_c ea_nil)) (by simp)) (fun _ _ => ev_op (ev_var rfl) ev_c rv_I0) fun l H7 h7 e7 => rv_ixL (sq_of h7) hlf) fun H6 e6 => ea_at (ev_var rfl) fun H7 e7 => ?_))
      have e := ((e4.trans e5).trans e6).trans e7
      have o7 := o3.ex e
      refine (?_ : tCall _ _ _ _ _ _ _)
      refine draw_at (l := 4) (n := n + 1 + 6 * (span - 1) - 0) (ea_cons (ev_var rfl) (ea_cons ev_c ea_nil)) (by decide) (log_small (by decide)) (by omega) o7.g fun H8 u b8 g8 u0 u1 => ⟨by show 3 ≤ sizeLine; decide, fun p np => ?_⟩
      have eN : Ex H8 (upd H8 p (.tup [.str (shS lf), .ref q, .int u])) := Ex.new np
      refine fin p (.sh lf nd u) _ ((Bs.of e).trans ((Bs.bu b8).trans (Bs.of eN))) (((o7.bu b8 g8).ex eN).le (by omega)) ⟨q, upd_same, ((tr.ex e).tk (TupK.bu b8 o7.g)).ex eN⟩ rfl ⟨isE, tk.wf, u0, by omega⟩ rfl rfl rfl

theorem sc__law_test : FnScope ["rng", "free", "left", "span", "top", "pick", "many"] ["rng", "free", "left", "span", "top"] (defScope s__law_test) := ⟨rfl, rfl, rfl, by decide +kernel, rfl, by decide +kernel, by decide +kernel⟩
theorem step__law_test {s k : Nat} (D : Df K mg "_law_test" s__law_test ["rng", "free", "left", "span", "top"] f fd) (hk1 : 1 ≤ k) (c1 : Cl P w K mg base 1 "_law_draw" ["rng", "limit"] spDraw) (c2 : Cl P w K mg base k "_law_tree" ["rng", "free", "left", "span", "top"] (spTree true 1 0 s)) (c3 : Cl P w K mg base k "_law_test" ["rng", "free", "left", "span", "top"] (spTree false 3 0 s)) : FnG P w K mg base CX0 (k + 1) f fd ["rng", "free", "left", "span", "top"] (spTree false 3 0 (s + 1)) := by
  refine df_ok D sc__law_test (fun vs H Q E h => by obtain ⟨r, a, b, span, top, n, xs, m, rfl, _⟩ := h; rfl) (fun cdv A outer s H vs Q E hG hr h => ?_)
  obtain ⟨r, a, b, span, top, n, xs, m, rfl, hs1, hs2, hs3, t0, t1, hn, o0, hx8, hm8, h5, hQ⟩ := h
  have nd := sc__law_test.nd
  refine ⟨_, pss_cons (ps_set (i := 5) nd rfl (.inl rfl) (pe_cl c1 hG hr rfl (pa_cons (pv 0) (pa_cons pe_int pa_nil)) hk1))
    (pss_cons (ps_if (PW.pt (pw_and (pt_cmpR op_gt (pv 3) pe_int (nomark _)) (pw_and1 (pt_cmpR op_lt (pv 5) pe_int (nomark _)))))
        (pss_cons (ps_set (i := 6) nd rfl (.inl rfl) (pe_op op_add pe_int (pe_cl c1 hG hr rfl (pa_cons (pv 0) (pa_cons (pe_op op_sub (pv 3) pe_int) pa_nil)) hk1)))
        (pss_one (ps_ret (pe_tup (pa_cons (pe_ix ix_list (pe_lst (pa_cons pe_str (pa_cons pe_str pa_nil))) (pv 5) (fun _ _ => rfl))
          (pa_cons (pe_cl c3 hG hr rfl (pa_cons (pv 0) (pa_cons (pv 1) (pa_cons (pv 2) (pa_cons (pv 6) (pa_cons (pv 4) pa_nil))))) (Nat.le_refl _))
          (pa_cons (pe_cl c3 hG hr rfl (pa_cons (pv 0) (pa_cons (pv 1) (pa_cons (pv 2) (pa_cons (pe_op op_sub (pe_op op_sub (pv 3) pe_int) (pv 6)) (pa_cons (pv 4) pa_nil))))) (Nat.le_refl _)) pa_nil))))))) pss_nil)
    (pss_cons (ps_if (PW.pt (pw_and (pt_cmpR op_gt (pv 3) pe_int (nomark _)) (pw_and1 (pt_cmpR op_eq (pv 5) pe_int (nomark _)))))
        (pss_one (ps_ret (pe_tup (pa_cons pe_str (pa_cons (pe_cl c3 hG hr rfl (pa_cons (pv 0) (pa_cons (pv 1) (pa_cons (pv 2) (pa_cons (pe_op op_sub (pv 3) pe_int) (pa_cons (pv 4) pa_nil))))) (Nat.le_refl _)) pa_nil))))) pss_nil)
    (pss_cons (ps_set (i := 6) nd rfl (.inl rfl) (pe_op op_add pe_int (pe_cl c1 hG hr rfl (pa_cons (pv 0) (pa_cons (pe_op op_sub (pv 3) pe_int) pa_nil)) hk1)))
    (pss_one (ps_ret (pe_tup (pa_cons (pe_ix ix_list (pe_lst (pa_cons pe_str (pa_cons pe_str pa_nil))) (pe_cl c1 hG hr rfl (pa_cons (pv 0) (pa_cons pe_int pa_nil)) hk1) (fun _ _ => rfl))
          (pa_cons (pe_cl c2 hG hr rfl (pa_cons (pv 0) (pa_cons (pv 1) (pa_cons (pv 2) (pa_cons (pv 6) (pa_cons (pv 4) pa_nil))))) (Nat.le_refl _))
          (pa_cons (pe_cl c2 hG hr rfl (pa_cons (pv 0) (pa_cons (pv 1) (pa_cons (pv 2) (pa_cons (pe_op op_sub (pe_op op_sub (pv 3) pe_int) (pv 6)) (pa_cons (pv 4) pa_nil))))) (Nat.le_refl _)) pa_nil))))))))), ?_⟩
  refine q_raw (?_ : tCall _ _ _ _ _ _ _)
  refine draw_at (l := 6) (n := n) (ea_cons (ev_var rfl) (ea_cons ev_c ea_nil)) (by decide) (log_small (by decide)) (by omega) o0.g fun H1 v b1 g1 v0 v1 => ?_
  have o1 := o0.bu b1 g1
  dsimp only [List.set]
  have gt : ∀ {i c : Int} {H : Hp} {σ : L2.St} {t : TE}, Ev t σ H (.int i) → EvT (tTest (tOp (rI0 fun i j => .bl (decide (i > j))) t (tC (.int c)))) σ H (decide (i > c)) := fun h => et_test (ev_op h ev_c rv_I0)
  by_cases p1 : (span : Int) > 6 ∧ v < 2
  · refine q_when (b := true) (et_is (et_and (et_test (ev_op (ev_var rfl) ev_c rv_I0)) (fun _ => et_test (ev_op (ev_var rfl) ev_c rv_I0))) (by rw [decide_eq_true p1.1, decide_eq_true p1.2]; rfl)) (fun _ H2 e2 => ?_) (fun z => nomatch z)
    have o2 := o1.ex e2
    refine q_raw (?_ : tOp _ _ _ _ _ _)
    refine op_raw (?_ : tC _ _ _ _)
    refine (?_ : tCall _ _ _ _ _ _ _)
    refine draw_at (l := (span : Int) - 6) (n := n + 1) (ea_cons (ev_var rfl) (ea_cons (ev_op (ev_var rfl) ev_c rv_I0) ea_nil)) (by omega) (log_small (by omega)) (by omega) o2.g fun H3 u b3 g3 u0 u1 => ⟨3, u, rfl, rfl, ?_⟩
    obtain ⟨j, rfl⟩ : ∃ j : Nat, u = (j : Int) := ⟨u.toNat, by omega⟩
    have o3 := o2.bu b3 g3
    dsimp only [List.set]
    obtain ⟨lf, hlf⟩ : ∃ lf : Bool, atI [V.str "and", V.str "or"] v = some (.str (lgS lf)) := by
      have hv : v = 0 ∨ v = 1 := by omega
      rcases hv with rfl | rfl
      · exact ⟨true, by decide +kernel⟩
      · exact ⟨false, by decide +kernel⟩
    refine ret_raw (tup_raw (ea_at (ev_opL1 (xs := [.str "and", .str "or"]) (y := .int v) (el_lst (ea_cons ev_c (ea_cons ev_c ea_nil)) (by simp)) (fun _ _ => ev_var rfl) fun l H7 h7 e7 => rv_ixL (sq_of h7) hlf) fun H4 e4 => ?_))
    have o4 := o3.ex e4
    refine (?_ : tCall _ _ _ _ _ _ _)
    refine tree_at (span := 3 + j) (n := n + 2) (xs := xs) (m := m) (ea_cons (ev_var rfl) (ea_cons (ev_var rfl) (ea_cons (ev_var rfl) (ea_cons (ev_is (ev_var rfl) (by congr 1)) (ea_cons (ev_var rfl) ea_nil))))) (by omega) (by omega) (by omega) t0 t1 (by omega) o4 hx8 hm8 (by omega) fun p5 n5 y5 m5 H5 b5 o5 tr5 iE5 tk5 lv5 => ?_
    refine (?_ : tCall _ _ _ _ _ _ _)
    rw [if_neg (by decide)] at lv5
    have l5 := tk5.len
    have ml5 := tk5.ml
    have lt5 := tk5.lv
    refine tree_at (span := span - 1 - (3 + j)) (n := n + 2 + 6 * (3 + j) - 0) (xs := y5) (m := m5) (ea_cons (ev_var rfl) (ea_cons (ev_var rfl) (ea_cons (ev_var rfl) (ea_cons (ev_is (ev_op (ev_op (ev_var rfl) ev_c rv_I0) (ev_var rfl) rv_I0) (by congr 1; omega)) (ea_cons (ev_var rfl) ea_nil))))) (by omega) (by omega) (by omega) t0 t1 (by omega) o5 (by omega) (by omega) (by omega) fun p6 n6 y6 m6 H6 b6 o6 tr6 iE6 tk6 lv6 => ?_
    rw [if_neg (by decide)] at lv6
    refine ⟨by show 3 ≤ sizeLine; decide, fun p np => ?_⟩
    have eN : Ex H6 (upd H6 p (.tup [.str (lgS lf), .ref p5, .ref p6])) := Ex.new np
    have z5 := tk5.sz
    have z6 := tk6.sz
    have lt6 := tk6.lv
    refine hQ p (.lg lf n5 n6) y6 m6 _ ((Bs.bu b1).trans ((Bs.of e2).trans ((Bs.bu b3).trans ((Bs.of e4).trans (b5.trans (b6.trans (Bs.of eN))))))) ((o6.ex eN).le (by omega)) ⟨p5, p6, upd_same, (tr5.tk (b6.tk o5)).ex eN, tr6.ex eN⟩ rfl ⟨⟨iE5, iE6, tk5.wf, tk6.wf⟩, perm2 tk5.vs tk6.vs, ?_, ?_⟩ ?_
    · show n5.leaves + n6.leaves + y6.length + m6 = _
      omega
    · show 1 + n5.size + n6.size ≤ _
      omega
    · show 5 * (n5.leaves + n6.leaves) ≤ _
      rw [if_neg (by decide)]
      omega
  · refine q_when (b := false) (et_is (et_and (et_test (ev_op (ev_var rfl) ev_c rv_I0)) (fun _ => et_test (ev_op (ev_var rfl) ev_c rv_I0))) (by rw [← Bool.decide_and]; exact decide_eq_false p1)) (fun z => nomatch z) (fun _ H2 e2 => ?_)
    have o2 := o1.ex e2
    by_cases p2 : (span : Int) > 3 ∧ v = 2
    · refine q_when (b := true) (et_is (et_and (et_test (ev_op (ev_var rfl) ev_c rv_I0)) (fun _ => et_test (ev_op (ev_var rfl) ev_c (rv_eq rfl)))) (by rw [decide_eq_true p2.1, p2.2]; rfl)) (fun _ H3 e3 => ?_) (fun z => nomatch z)
      have o3 := o2.ex e3
      refine ret_raw (tup_raw (ea_at ev_c fun H4 e4 => ?_))
      have o4 := o3.ex e4
      refine (?_ : tCall _ _ _ _ _ _ _)
      refine tree_at (span := span - 1) (n := n + 1) (xs := xs) (m := m) (ea_cons (ev_var rfl) (ea_cons (ev_var rfl) (ea_cons (ev_var rfl) (ea_cons (ev_is (ev_op (ev_var rfl) ev_c rv_I0) (by congr 1; omega)) (ea_cons (ev_var rfl) ea_nil))))) (by omega) (by omega) (by omega) t0 t1 (by omega) o4 hx8 hm8 (by omega) fun p5 n5 y5 m5 H5 b5 o5 tr5 iE5 tk5 lv5 => ?_
      rw [if_neg (by decide)] at lv5
      refine ⟨by show 2 ≤ sizeLine; decide, fun p np => ?_⟩
      have eN : Ex H5 (upd H5 p (.tup [.str "not", .ref p5])) := Ex.new np
      have z5 := tk5.sz
      refine hQ p (.nt n5) y5 m5 _ ((Bs.bu b1).trans ((Bs.of (e2.trans (e3.trans e4))).trans (b5.trans (Bs.of eN)))) ((o5.ex eN).le (by omega)) ⟨p5, upd_same, tr5.ex eN⟩ rfl ⟨⟨iE5, tk5.wf⟩, tk5.vs, tk5.lv, ?_⟩ ?_
      · show 1 + n5.size ≤ _
        omega
      · show 5 * n5.leaves ≤ _
        rw [if_neg (by decide)]
        omega
    · refine q_when (b := false) (et_is (et_and (et_test (ev_op (ev_var rfl) ev_c rv_I0)) (fun _ => et_test (ev_op (ev_var rfl) ev_c (rv_eq rfl)))) (by rw [← Bool.decide_and]; exact decide_eq_false fun z => p2 ⟨z.1, V.int.inj z.2⟩)) (fun z => nomatch z) (fun _ H3 e3 => ?_)
      have o3 := o2.ex e3
      refine q_raw (?_ : tOp _ _ _ _ _ _)
      refine op_raw (?_ : tC _ _ _ _)
      refine (?_ : tCall _ _ _ _ _ _ _)
      refine draw_at (l := (span : Int) - 2) (n := n + 1) (ea_cons (ev_var rfl) (ea_cons (ev_op (ev_var rfl) ev_c rv_I0) ea_nil)) (by omega) (log_small (by omega)) (by omega) o3.g fun H4 u b4 g4 u0 u1 => ⟨1, u, rfl, rfl, ?_⟩
      obtain ⟨j, rfl⟩ : ∃ j : Nat, u = (j : Int) := ⟨u.toNat, by omega⟩
      have o4 := o3.bu b4 g4
      dsimp only [List.set]
      refine ret_raw (tup_raw (?_ : tCons _ _ _ _ _))
      refine (?_ : tOp _ _ _ _ _ _)
      refine op_raw ((el_lst (vs := [.str "less", .str "most"]) (ea_cons ev_c (ea_cons ev_c ea_nil)) (by simp)) H4 (Ex.refl H4) _ fun l H5 n5 e5 h5' => ?_)
      have o5 := o4.ex e5
      obtain ⟨lr, _, _⟩ := o4.fr n5
      refine draw_at (l := 2) (n := n + 2) (ea_cons (ev_var rfl) (ea_cons ev_c ea_nil)) (by decide) (log_small (by decide)) (by omega) o5.g fun H6 z b6 g6 z0 z1 => ?_
      have o6 := o5.bu b6 g6
      obtain ⟨lf, hlf⟩ : ∃ lf : Bool, atI [V.str "less", V.str "most"] z = some (.str (cmpS lf)) := by
        have hv : z = 0 ∨ z = 1 := by omega
        rcases hv with rfl | rfl
        · exact ⟨true, by decide +kernel⟩
        · exact ⟨false, by decide +kernel⟩
      refine ⟨l, _, z, _, rfl, rfl, sq_of (b6 _ _ lr h5'), hlf, ?_⟩
      refine (?_ : tCall _ _ _ _ _ _ _)
      refine tree_at (span := 1 + j) (n := n + 3) (xs := xs) (m := m) (ea_cons (ev_var rfl) (ea_cons (ev_var rfl) (ea_cons (ev_var rfl) (ea_cons (ev_is (ev_var rfl) (by congr 1)) (ea_cons (ev_var rfl) ea_nil))))) (by omega) (by omega) (by omega) t0 t1 (by omega) o6 hx8 hm8 (by omega) fun p7 n7 y7 m7 H7 b7 o7 tr7 iE7 tk7 lv7 => ?_
      refine (?_ : tCall _ _ _ _ _ _ _)
      rw [if_pos rfl] at lv7
      have l7 := tk7.len
      have ml7 := tk7.ml
      have lt7 := tk7.lv
      refine tree_at (span := span - 1 - (1 + j)) (n := n + 3 + 6 * (1 + j) - 0) (xs := y7) (m := m7) (ea_cons (ev_var rfl) (ea_cons (ev_var rfl) (ea_cons (ev_var rfl) (ea_cons (ev_is (ev_op (ev_op (ev_var rfl) ev_c rv_I0) (ev_var rfl) rv_I0) (by congr 1; omega)) (ea_cons (ev_var rfl) ea_nil))))) (by omega) (by omega) (by omega) t0 t1 (by omega) o7 (by omega) (by omega) (by omega) fun p8 n8 y8 m8 H8 b8 o8 tr8 iE8 tk8 lv8 => ?_
      rw [if_pos rfl] at lv8
      refine ⟨by show 3 ≤ sizeLine; decide, fun p np => ?_⟩
      have eN : Ex H8 (upd H8 p (.tup [.str (cmpS lf), .ref p7, .ref p8])) := Ex.new np
      have z7 := tk7.sz
      have z8 := tk8.sz
      have lt8 := tk8.lv
      refine hQ p (.cmp lf n7 n8) y8 m8 _ ((Bs.bu b1).trans ((Bs.of (e2.trans e3)).trans ((Bs.bu b4).trans ((Bs.of e5).trans ((Bs.bu b6).trans (b7.trans (b8.trans (Bs.of eN)))))))) ((o8.ex eN).le (by omega)) ⟨p7, p8, upd_same, (tr7.tk (b8.tk o7)).ex eN, tr8.ex eN⟩ rfl ⟨⟨iE7, iE8, tk7.wf, tk8.wf⟩, perm2 tk7.vs tk8.vs, ?_, ?_⟩ ?_
      · show n7.leaves + n8.leaves + y8.length + m8 = _
        omega
      · show 1 + n7.size + n8.size ≤ _
        omega
      · show 5 * (n7.leaves + n8.leaves) ≤ _
        rw [if_neg (by decide)]
        omega

theorem sc__law_tree : FnScope ["rng", "free", "left", "span", "top", "pick", "many", "test", "more"] ["rng", "free", "left", "span", "top"] (defScope s__law_tree) := ⟨rfl, rfl, rfl, by decide +kernel, rfl, by decide +kernel, by decide +kernel⟩
theorem step__law_tree {s k : Nat} (D : Df K mg "_law_tree" s__law_tree ["rng", "free", "left", "span", "top"] f fd) (hk1 : 2 ≤ k) (c1 : Cl P w K mg base 1 "_law_draw" ["rng", "limit"] spDraw) (cl : Cl P w K mg base 2 "_law_leaf" ["rng", "free", "left", "top"] spLeaf) (co : Cl P w K mg base (k + 1) "_law_one" ["rng", "free", "left", "span", "top"] (spTree true 2 4 (s + 1))) (c2 : Cl P w K mg base k "_law_tree" ["rng", "free", "left", "span", "top"] (spTree true 1 0 s)) (c3 : Cl P w K mg base k "_law_test" ["rng", "free", "left", "span", "top"] (spTree false 3 0 s)) : FnG P w K mg base CX0 (k + 2) f fd ["rng", "free", "left", "span", "top"] (spTree true 1 0 (s + 1)) := by
  refine df_ok D sc__law_tree (fun vs H Q E h => by obtain ⟨r, a, b, span, top, n, xs, m, rfl, _⟩ := h; rfl) (fun cdv A outer s H vs Q E hG hr h => ?_)
  obtain ⟨r, a, b, span, top, n, xs, m, rfl, hs1, hs2, hs3, t0, t1, hn, o0, hx8, hm8, h5, hQ⟩ := h
  have nd := sc__law_tree.nd
  have k1 : 1 ≤ k + 1 := by omega
  have k2 : 2 ≤ k + 1 := by omega
  have kk : k ≤ k + 1 := by omega
  refine ⟨_, pss_cons (ps_set (i := 5) nd rfl (.inl rfl) (pe_cl c1 hG hr rfl (pa_cons (pv 0) (pa_cons pe_int pa_nil)) k1))
    (pss_cons (ps_if (PW.pt (pw_or (pt_cmpR op_lt (pv 3) pe_int (nomark _)) (pw_or1 (pt_cmpR op_eq (pv 5) pe_int (nomark _)))))
        (pss_one (ps_ret (pe_cl cl hG hr rfl (pa_cons (pv 0) (pa_cons (pv 1) (pa_cons (pv 2) (pa_cons (pv 4) pa_nil)))) k2))) pss_nil)
    (pss_cons (ps_if (PW.pt (pw_or (pt_cmpR op_lt (pv 3) pe_int (nomark _)) (pw_or1 (pt_cmpR op_lt (pv 5) pe_int (nomark _)))))
        (pss_one (ps_ret (pe_cl co hG hr rfl (pa_cons (pv 0) (pa_cons (pv 1) (pa_cons (pv 2) (pa_cons (pv 3) (pa_cons (pv 4) pa_nil))))) (Nat.le_refl _)))) pss_nil)
    (pss_cons (ps_if (PW.pt (pw_and (pt_cmpR op_gt (pv 3) pe_int (nomark _)) (pw_and1 (pt_cmpR op_eq (pv 5) pe_int (nomark _)))))
        (pss_cons (ps_set (i := 6) nd rfl (.inl rfl) (pe_op op_add pe_int (pe_cl c1 hG hr rfl (pa_cons (pv 0) (pa_cons (pe_op op_sub (pv 3) pe_int) pa_nil)) k1)))
        (pss_cons (ps_set (i := 7) nd rfl (.inl rfl) (pe_cl c3 hG hr rfl (pa_cons (pv 0) (pa_cons (pv 1) (pa_cons (pv 2) (pa_cons (pv 6) (pa_cons (pv 4) pa_nil))))) kk))
        (pss_cons (ps_set (i := 8) nd rfl (.inl rfl) (pe_op op_add pe_int (pe_cl c1 hG hr rfl (pa_cons (pv 0) (pa_cons (pe_op op_sub (pe_op op_sub (pv 3) (pv 6)) pe_int) pa_nil)) k1)))
        (pss_one (ps_ret (pe_tup (pa_cons pe_str (pa_cons (pv 7)
          (pa_cons (pe_cl c2 hG hr rfl (pa_cons (pv 0) (pa_cons (pv 1) (pa_cons (pv 2) (pa_cons (pv 8) (pa_cons (pv 4) pa_nil))))) kk)
          (pa_cons (pe_cl c2 hG hr rfl (pa_cons (pv 0) (pa_cons (pv 1) (pa_cons (pv 2) (pa_cons (pe_op op_sub (pe_op op_sub (pe_op op_sub (pv 3) pe_int) (pv 6)) (pv 8)) (pa_cons (pv 4) pa_nil))))) kk) pa_nil)))))))))) pss_nil)
    (pss_cons (ps_set (i := 8) nd rfl (.inl rfl) (pe_op op_add pe_int (pe_cl c1 hG hr rfl (pa_cons (pv 0) (pa_cons (pe_op op_sub (pv 3) pe_int) pa_nil)) k1)))
    (pss_one (ps_ret (pe_tup (pa_cons (pe_ix ix_list (pe_lst (pa_cons pe_str (pa_cons pe_str (pa_cons pe_str (pa_cons pe_str (pa_cons pe_str pa_nil)))))) (pe_op op_sub (pv 5) pe_int) (fun _ _ => rfl))
          (pa_cons (pe_cl c2 hG hr rfl (pa_cons (pv 0) (pa_cons (pv 1) (pa_cons (pv 2) (pa_cons (pv 8) (pa_cons (pv 4) pa_nil))))) kk)
          (pa_cons (pe_cl c2 hG hr rfl (pa_cons (pv 0) (pa_cons (pv 1) (pa_cons (pv 2) (pa_cons (pe_op op_sub (pe_op op_sub (pv 3) pe_int) (pv 8)) (pa_cons (pv 4) pa_nil))))) kk) pa_nil)))))))))), ?_⟩
  refine q_raw (?_ : tCall _ _ _ _ _ _ _)
  refine draw_at (l := 10) (n := n) (ea_cons (ev_var rfl) (ea_cons ev_c ea_nil)) (by decide) (log_small (by decide)) (by omega) o0.g fun H1 v b1 g1 v0 v1 => ?_
  have o1 := o0.bu b1 g1
  dsimp only [List.set]
  by_cases p1 : (span : Int) < 2 ∨ v = 0
  · refine q_when (b := true) (et_is (et_or (et_test (ev_op (ev_var rfl) ev_c rv_I0)) (fun _ => et_test (ev_op (ev_var rfl) ev_c (rv_eq rfl)))) (by rw [← Bool.decide_or]; exact decide_eq_true (p1.imp id fun z => by rw [z]))) (fun _ H2 e2 => ?_) (fun z => nomatch z)
    have o2 := o1.ex e2
    refine ret_raw ?_
    refine (ea_cons (ev_var rfl) (ea_cons (ev_var rfl) (ea_cons (ev_var rfl) (ea_cons (ev_var rfl) ea_nil)))) H2 (Ex.refl H2) _ fun H3 e3 => ⟨r, a, b, top, n + 1, xs, m, rfl, t0, t1, by omega, o2.ex e3, hx8, hm8, by omega, fun p nd ys m' H' bs o tr iE tk lv => ?_⟩
    refine hQ p nd ys m' H' ((Bs.bu b1).trans ((Bs.of (e2.trans e3)).trans bs)) (o.le (by omega)) tr iE ⟨tk.wf, tk.vs, tk.lv, by have := tk.sz; omega⟩ ?_
    rw [lv, if_pos rfl]
    omega
  refine q_when (b := false) (et_is (et_or (et_test (ev_op (ev_var rfl) ev_c rv_I0)) (fun _ => et_test (ev_op (ev_var rfl) ev_c (rv_eq rfl)))) (by rw [← Bool.decide_or]; exact decide_eq_false fun z => p1 (z.imp id V.int.inj))) (fun z => nomatch z) (fun _ H2 e2 => ?_)
  have o2 := o1.ex e2
  by_cases p2 : (span : Int) < 3 ∨ v < 4
  · refine q_when (b := true) (et_is (et_or (et_test (ev_op (ev_var rfl) ev_c rv_I0)) (fun _ => et_test (ev_op (ev_var rfl) ev_c rv_I0))) (by rw [← Bool.decide_or]; exact decide_eq_true p2)) (fun _ H3 e3 => ?_) (fun z => nomatch z)
    have o3 := o2.ex e3
    refine ret_raw ?_
    refine tree_at (span := span) (n := n + 1) (xs := xs) (m := m) (ea_cons (ev_var rfl) (ea_cons (ev_var rfl) (ea_cons (ev_var rfl) (ea_cons (ev_var rfl) (ea_cons (ev_var rfl) ea_nil))))) (by omega) (by omega) (by omega) t0 t1 (by omega) o3 hx8 hm8 (by omega) fun p nd ys m' H' bs o tr iE tk lv => ?_
    exact hQ p nd ys m' H' ((Bs.bu b1).trans ((Bs.of (e2.trans e3)).trans bs)) (o.le (by omega)) tr iE tk lv
  refine q_when (b := false) (et_is (et_or (et_test (ev_op (ev_var rfl) ev_c rv_I0)) (fun _ => et_test (ev_op (ev_var rfl) ev_c rv_I0))) (by rw [← Bool.decide_or]; exact decide_eq_false p2)) (fun z => nomatch z) (fun _ H3 e3 => ?_)
  have o3 := o2.ex e3
  have b03 := (Bs.bu (a := a) (b := b) b1).trans (Bs.of (e2.trans e3))
  by_cases p3 : (span : Int) > 5 ∧ v = 4
  · refine q_when (b := true) (et_is (et_and (et_test (ev_op (ev_var rfl) ev_c rv_I0)) (fun _ => et_test (ev_op (ev_var rfl) ev_c (rv_eq rfl)))) (by rw [decide_eq_true p3.1, p3.2]; rfl)) (fun _ H4 e4 => ?_) (fun z => nomatch z)
    have o4 := o3.ex e4
    refine q_raw (?_ : tOp _ _ _ _ _ _)
    refine op_raw (?_ : tC _ _ _ _)
    refine (?_ : tCall _ _ _ _ _ _ _)
    refine draw_at (l := (span : Int) - 5) (n := n + 1) (ea_cons (ev_var rfl) (ea_cons (ev_op (ev_var rfl) ev_c rv_I0) ea_nil)) (by omega) (log_small (by omega)) (by omega) o4.g fun H5 u b5 g5 u0 u1 => ⟨3, u, rfl, rfl, ?_⟩
    obtain ⟨j, rfl⟩ : ∃ j : Nat, u = (j : Int) := ⟨u.toNat, by omega⟩
    have o5 := o4.bu b5 g5
    dsimp only [List.set]
    refine q_raw (?_ : tCall _ _ _ _ _ _ _)
    refine tree_at (span := 3 + j) (n := n + 2) (xs := xs) (m := m) (ea_cons (ev_var rfl) (ea_cons (ev_var rfl) (ea_cons (ev_var rfl) (ea_cons (ev_is (ev_var rfl) (by congr 1)) (ea_cons (ev_var rfl) ea_nil))))) (by omega) (by omega) (by omega) t0 t1 (by omega) o5 hx8 hm8 (by omega) fun p6 n6 y6 m6 H6 b6 o6 tr6 iE6 tk6 lv6 => ?_
    rw [if_neg (by decide)] at lv6
    have l6 := tk6.len
    have ml6 := tk6.ml
    have lt6 := tk6.lv
    refine q_raw (?_ : tOp _ _ _ _ _ _)
    refine op_raw (?_ : tC _ _ _ _)
    refine (?_ : tCall _ _ _ _ _ _ _)
    refine draw_at (l := (span : Int) - (3 + j) - 2) (n := n + 2 + 6 * (3 + j) - 0) (ea_cons (ev_var rfl) (ea_cons (ev_op (ev_op (ev_var rfl) (ev_var rfl) rv_I0) ev_c rv_I0) ea_nil)) (by omega) (log_small (by omega)) (by omega) o6.g fun H7 u b7 g7 u0 u1 => ⟨1, u, rfl, rfl, ?_⟩
    obtain ⟨i, rfl⟩ : ∃ i : Nat, u = (i : Int) := ⟨u.toNat, by omega⟩
    have o7 := o6.bu b7 g7
    dsimp only [List.set]
    refine ret_raw (tup_raw (ea_at ev_c fun H8 e8 => ea_at (ev_var rfl) fun H9 e9 => ?_))
    have o9 := o7.ex (e8.trans e9)
    refine (?_ : tCall _ _ _ _ _ _ _)
    refine tree_at (span := 1 + i) (n := n + 2 + 6 * (3 + j) - 0 + 1) (xs := y6) (m := m6) (ea_cons (ev_var rfl) (ea_cons (ev_var rfl) (ea_cons (ev_var rfl) (ea_cons (ev_is (ev_var rfl) (by congr 1)) (ea_cons (ev_var rfl) ea_nil))))) (by omega) (by omega) (by omega) t0 t1 (by omega) o9 (by omega) (by omega) (by omega) fun pA nA yA mA HA bA oA trA iEA tkA lvA => ?_
    rw [if_pos rfl] at lvA
    have lA := tkA.len
    have mlA := tkA.ml
    have ltA := tkA.lv
    refine (?_ : tCall _ _ _ _ _ _ _)
    refine tree_at (span := span - 1 - (3 + j) - (1 + i)) (n := n + 2 + 6 * (3 + j) - 0 + 1 + 6 * (1 + i) - 0) (xs := yA) (m := mA) (ea_cons (ev_var rfl) (ea_cons (ev_var rfl) (ea_cons (ev_var rfl) (ea_cons (ev_is (ev_op (ev_op (ev_op (ev_var rfl) ev_c rv_I0) (ev_var rfl) rv_I0) (ev_var rfl) rv_I0) (by congr 1; omega)) (ea_cons (ev_var rfl) ea_nil))))) (by omega) (by omega) (by omega) t0 t1 (by omega) oA (by omega) (by omega) (by omega) fun pB nB yB mB HB bB oB trB iEB tkB lvB => ?_
    rw [if_pos rfl] at lvB
    refine ⟨by show 4 ≤ sizeLine; decide, fun p np => ?_⟩
    have eN : Ex HB (upd HB p (.tup [.str "if", .ref p6, .ref pA, .ref pB])) := Ex.new np
    have z6 := tk6.sz
    have zA := tkA.sz
    have zB := tkB.sz
    have ltB := tkB.lv
    have k6 : TupK H6 HB := (TupK.bu b7 o6.g).trans ((TupK.of (e8.trans e9)).trans ((bA.tk o9).trans (bB.tk oA)))
    refine hQ p (.ite n6 nA nB) yB mB _ (b03.trans ((Bs.of e4).trans ((Bs.bu b5).trans (b6.trans ((Bs.bu b7).trans ((Bs.of (e8.trans e9)).trans (bA.trans (bB.trans (Bs.of eN))))))))) ((oB.ex eN).le (by omega)) ⟨p6, pA, pB, upd_same, (tr6.tk k6).ex eN, (trA.tk (bB.tk oA)).ex eN, trB.ex eN⟩ rfl ⟨⟨iE6, iEA, iEB, tk6.wf, tkA.wf, tkB.wf⟩, perm2 tk6.vs (perm2 tkA.vs tkB.vs), ?_, ?_⟩ ?_
    · show n6.leaves + nA.leaves + nB.leaves + yB.length + mB = _
      omega
    · show 1 + n6.size + nA.size + nB.size ≤ _
      omega
    · show 5 * (n6.leaves + nA.leaves + nB.leaves) ≤ _
      rw [if_pos rfl]
      omega
  refine q_when (b := false) (et_is (et_and (et_test (ev_op (ev_var rfl) ev_c rv_I0)) (fun _ => et_test (ev_op (ev_var rfl) ev_c (rv_eq rfl)))) (by rw [← Bool.decide_and]; exact decide_eq_false fun z => p3 ⟨z.1, V.int.inj z.2⟩)) (fun z => nomatch z) (fun _ H4 e4 => ?_)
  have o4 := o3.ex e4
  refine q_raw (?_ : tOp _ _ _ _ _ _)
  refine op_raw (?_ : tC _ _ _ _)
  refine (?_ : tCall _ _ _ _ _ _ _)
  refine draw_at (l := (span : Int) - 2) (n := n + 1) (ea_cons (ev_var rfl) (ea_cons (ev_op (ev_var rfl) ev_c rv_I0) ea_nil)) (by omega) (log_small (by omega)) (by omega) o4.g fun H5 u b5 g5 u0 u1 => ⟨1, u, rfl, rfl, ?_⟩
  obtain ⟨j, rfl⟩ : ∃ j : Nat, u = (j : Int) := ⟨u.toNat, by omega⟩
  have o5 := o4.bu b5 g5
  dsimp only [List.set]
  obtain ⟨op, hop⟩ : ∃ op : Bo, atI [V.str "add", V.str "sub", V.str "mul", V.str "add", V.str "sub"] (v - 5) = some (.str op.s) := by
    have hv : v = 4 ∨ v = 5 ∨ v = 6 ∨ v = 7 ∨ v = 8 ∨ v = 9 := by omega
    rcases hv with rfl | rfl | rfl | rfl | rfl | rfl
    · exact ⟨.sub, by decide +kernel⟩
    · exact ⟨.add, by decide +kernel⟩
    · exact ⟨.sub, by decide +kernel⟩
    · exact ⟨.mul, by decide +kernel⟩
    · exact ⟨.add, by decide +kernel⟩
    · exact ⟨.sub, by decide +kernel⟩
  refine ret_raw (tup_raw (ea_at (ev_opL1 (xs := [.str "add", .str "sub", .str "mul", .str "add", .str "sub"]) (y := .int (v - 5)) (el_lst (ea_cons ev_c (ea_cons ev_c (ea_cons ev_c (ea_cons ev_c (ea_cons ev_c ea_nil))))) (by simp)) (fun _ _ => ev_op (ev_var rfl) ev_c rv_I0) fun l H7 h7 e7 => rv_ixL (sq_of h7) hop) fun H6 e6 => ?_))
  have o6 := o5.ex e6
  refine (?_ : tCall _ _ _ _ _ _ _)
  refine tree_at (span := 1 + j) (n := n + 2) (xs := xs) (m := m) (ea_cons (ev_var rfl) (ea_cons (ev_var rfl) (ea_cons (ev_var rfl) (ea_cons (ev_is (ev_var rfl) (by congr 1)) (ea_cons (ev_var rfl) ea_nil))))) (by omega) (by omega) (by omega) t0 t1 (by omega) o6 hx8 hm8 (by omega) fun p7 n7 y7 m7 H7 b7 o7 tr7 iE7 tk7 lv7 => ?_
  refine (?_ : tCall _ _ _ _ _ _ _)
  rw [if_pos rfl] at lv7
  have l7 := tk7.len
  have ml7 := tk7.ml
  have lt7 := tk7.lv
  refine tree_at (span := span - 1 - (1 + j)) (n := n + 2 + 6 * (1 + j) - 0) (xs := y7) (m := m7) (ea_cons (ev_var rfl) (ea_cons (ev_var rfl) (ea_cons (ev_var rfl) (ea_cons (ev_is (ev_op (ev_op (ev_var rfl) ev_c rv_I0) (ev_var rfl) rv_I0) (by congr 1; omega)) (ea_cons (ev_var rfl) ea_nil))))) (by omega) (by omega) (by omega) t0 t1 (by omega) o7 (by omega) (by omega) (by omega) fun p8 n8 y8 m8 H8 b8 o8 tr8 iE8 tk8 lv8 => ?_
  rw [if_pos rfl] at lv8
  refine ⟨by show 3 ≤ sizeLine; decide, fun p np => ?_⟩
  have eN : Ex H8 (upd H8 p (.tup [.str op.s, .ref p7, .ref p8])) := Ex.new np
  have z7 := tk7.sz
  have z8 := tk8.sz
  have lt8 := tk8.lv
  refine hQ p (.bin op n7 n8) y8 m8 _ (b03.trans ((Bs.of e4).trans ((Bs.bu b5).trans ((Bs.of e6).trans (b7.trans (b8.trans (Bs.of eN))))))) ((o8.ex eN).le (by omega)) ⟨p7, p8, upd_same, (tr7.tk (b8.tk o7)).ex eN, tr8.ex eN⟩ rfl ⟨⟨iE7, iE8, tk7.wf, tk8.wf⟩, perm2 tk7.vs tk8.vs, ?_, ?_⟩ ?_
  · show n7.leaves + n8.leaves + y8.length + m8 = _
    omega
  · show 1 + n7.size + n8.size ≤ _
    omega
  · show 5 * (n7.leaves + n8.leaves) ≤ _
    rw [if_pos rfl]
    omega

theorem trees_ok {f1 f2 f3 : Addr} {fd1 fd2 fd3 : FuncData} (D1 : Df K mg "_law_one" s__law_one ["rng", "free", "left", "span", "top"] f1 fd1) (D2 : Df K mg "_law_tree" s__law_tree ["rng", "free", "left", "span", "top"] f2 fd2) (D3 : Df K mg "_law_test" s__law_test ["rng", "free", "left", "span", "top"] f3 fd3)
    (c1 : Cl P w K mg base 1 "_law_draw" ["rng", "limit"] spDraw) (cl : Cl P w K mg base 2 "_law_leaf" ["rng", "free", "left", "top"] spLeaf) : ∀ s : Nat, FnG P w K mg base CX0 (2 + 2 * s) f2 fd2 ["rng", "free", "left", "span", "top"] (spTree true 1 0 s) ∧ FnG P w K mg base CX0 (2 + 2 * s) f3 fd3 ["rng", "free", "left", "span", "top"] (spTree false 3 0 s)
  | 0 => ⟨FnG.never fun vs H Q E h => by obtain ⟨r, a, b, span, top, n, xs, m, _, h1, h2, _⟩ := h; omega, FnG.never fun vs H Q E h => by obtain ⟨r, a, b, span, top, n, xs, m, _, h1, h2, _⟩ := h; omega⟩
  | s + 1 => by
    obtain ⟨i2, i3⟩ := trees_ok D1 D2 D3 c1 cl s
    have k1 : 1 ≤ 2 + 2 * s := by omega
    have k2 : 2 ≤ 2 + 2 * s := by omega
    have C2 := Cl.mk D2 i2
    have C3 := Cl.mk D3 i3
    have C1 := Cl.mk D1 (step__law_one D1 k1 c1 C2)
    exact ⟨step__law_tree D2 k2 c1 cl C1 C2 C3, (step__law_test D3 k1 c1 C2 C3).mono (by omega)⟩

theorem sc__law_whole : FnScope ["rng", "given", "many", "span", "top", "free", "left", "most_span", "row"] ["rng", "given", "many", "span", "top"] (defScope s__law_whole) := ⟨rfl, rfl, rfl, by decide +kernel, rfl, by decide +kernel, by decide +kernel⟩
theorem ok__law_whole {k : Nat} (D : Df K mg "_law_whole" s__law_whole ["rng", "given", "many", "span", "top"] f fd) (hk1 : 1 ≤ k) (c1 : Cl P w K mg base 1 "_law_draw" ["rng", "limit"] spDraw) (c2 : Cl P w K mg base k "_law_tree" ["rng", "free", "left", "span", "top"] (spTree true 1 0 24)) (c3 : Cl P w K mg base k "_law_test" ["rng", "free", "left", "span", "top"] (spTree false 3 0 24)) (cle : mg "len" = none) (cmi : mg "min" = none) : FnG P w K mg base CX0 (k + 1) f fd ["rng", "given", "many", "span", "top"] spWhole := by
  refine df_ok D sc__law_whole (fun vs H Q E h => by obtain ⟨r, l, many, span, top, n, rows, rfl, _⟩ := h; rfl) (fun cdv A outer s H vs Q E hG hr h => ?_)
  obtain ⟨r, l, many, span, top, n, rows, rfl, m1, m2, s1, s2, t0, t1, hn, g0, hV, hr8, hok, hQ⟩ := h
  have nd := sc__law_whole.nd
  refine ⟨_, (pss_cons (ps_par (i := 5) (j := 6) rfl nd rfl rfl (by decide) rfl rfl (pa_cons (pe_lc (own := [("row", 8)]) (g := gName 8) (tt := tYes) rfl nd (pi_list (pv 1)) (blkOk_by (N := ["rng", "given", "many", "span", "top", "free", "left", "most_span", "row"]) (sc := defScope s__law_whole) (by decide +kernel)) (fun _ _ _ _ _ => pg_name (i := 8) nd rfl (Or.inl rfl)) (fun _ _ _ _ _ => pts_nil) (fun _ _ _ _ _ => pe_ix (ix_tup : IxR _ (rIxT K)) (pv 8) pe_int (fun _ _ => rfl))) (pa_cons (pe_op op_rep (pe_lst (pa_cons pe_int pa_nil)) (pv 2)) pa_nil)) (by rfl)) (pss_cons (ps_set (i := 7) nd rfl (.inl rfl) (pe_callB (call_min2 rfl) (by rfl) cmi (by decide +kernel) (pa_cons (pv 3) (pa_cons (pe_op op_fdiv (pe_op op_add (pe_op op_mul pe_int (pe_op op_add (pe_callB call_len_seq (by rfl) cle (by decide +kernel) (pa_cons (pv 5) pa_nil)) (pv 2))) pe_int) pe_int) pa_nil)))) (pss_cons (ps_if (PW.pt (pw_and (pt_cmpR op_gt (pv 7) pe_int (nomark _)) (pw_and1 (pt_cmpR op_eq (pe_cl c1 hG hr rfl (pa_cons (pv 0) (pa_cons pe_int pa_nil)) hk1) pe_int (nomark _))))) (pss_one (ps_ret (pe_cl c3 hG hr rfl (pa_cons (pv 0) (pa_cons (pv 5) (pa_cons (pv 6) (pa_cons (pv 7) (pa_cons (pv 4) pa_nil))))) (Nat.le_refl _)))) pss_nil) (pss_one (ps_ret (pe_cl c2 hG hr rfl (pa_cons (pv 0) (pa_cons (pv 5) (pa_cons (pv 6) (pa_cons (pv 7) (pa_cons (pv 4) pa_nil))))) (Nat.le_refl _))))))), ?_⟩
  obtain ⟨ps, hl, hlen, hrow⟩ := id hV
  have hpl : (ps.map V.ref).length = rows.length := by rw [List.length_map, hlen]
  have turn : ∀ (i : Nat) (x : V) (G : Hp), Ex H G → (ps.map V.ref)[i]? = some x → ∃ p u v z, x = .ref p ∧ G p = some (.tup [.str ((rows.map Row.name).getD i ""), u, v, z]) := by
    intro i x G e hx
    rw [List.getElem?_map] at hx
    obtain ⟨p, hp, rfl⟩ := Option.map_eq_some_iff.mp hx
    have hi : i < rows.length := by
      have := (List.getElem?_eq_some_iff.mp hp).1
      rw [hlen] at this
      exact this
    obtain ⟨p2, q1, q2⟩ := hrow i rows[i] (List.getElem?_eq_getElem hi)
    rw [hp] at q1
    cases q1
    refine ⟨p, rows[i].kind.v, .int rows[i].low, .int rows[i].high, rfl, ?_⟩
    rw [List.getD_eq_getElem?_getD, List.getElem?_map, List.getElem?_eq_getElem hi]
    exact e _ _ q2
  refine par_raw (ea_atL (el_lcL (a := l) (xs := ps.map V.ref) (fun _ => true) (fun i => .str ((rows.map Row.name).getD i "")) (ev_var rfl) (sq_of hl) (by omega) (fun x => rfl) (fun i x G e hx => fun H1 e1 Q q => q H1 (Ex.refl H1)) (fun i x G e hx hf => ?_)) fun fr H1 n1 e1 h1 => ?_)
  · obtain ⟨p, u, v, z, rfl, hp⟩ := turn i x G e hx
    exact ev_op (ev_var rfl) ev_c (rv_ixT (st_of hp) (atI_nat (j := 0) rfl))
  rw [hpl, ← List.length_map (f := Row.name) (as := rows), given_all (rows.map Row.name) V.str ""] at h1
  refine (?_ : tOp _ _ _ _ _ _)
  refine op_raw ((el_lst (ea_cons ev_c ea_nil) (by simp)) H1 (Ex.refl H1) _ fun t H2 n2 e2 h2 => ⟨_, rfl, t, (many : Nat), _, rfl, rfl, h2, by omega, by omega, ?_, fun lf nl => ⟨_, _, rfl, ?_⟩⟩)
  · rw [Int.toNat_natCast]
    exact sz_of (by show 1 * many ≤ _; omega)
  have hrep : (List.replicate (((many : Nat) : Int)).toNat [V.int 0]).flatten = List.replicate many (.int 0) := by
    rw [Int.toNat_natCast]
    clear hQ
    generalize many = z
    induction z with
    | zero => rfl
    | succ z ih => rw [List.replicate_succ, List.flatten_cons, ih]; rfl
  rw [hrep]
  have e3 : Ex H2 (upd H2 lf (.lst (List.replicate many (.int 0)))) := Ex.new nl
  have h3 : (upd H2 lf (.lst (List.replicate many (.int 0)))) lf = some (.lst (List.replicate many (.int 0))) := upd_same
  have nfl : fr ≠ lf := fun z => by
    rw [← z, e2 _ _ h1] at nl
    exact nomatch nl
  generalize upd H2 lf (.lst (List.replicate many (.int 0))) = H3 at e3 h3 ⊢
  have e03 := (e1.trans e2).trans e3
  have hfr : H fr = none := n1
  have hlf : H lf = none := fresh_back (e1.trans e2) nl
  have neR : ∀ {q : Addr}, H q = none → q ≠ r := fun h => by
    obtain ⟨d, s2, c, q, _⟩ := g0
    exact fun z => by rw [z, q] at h; exact nomatch h
  have o3 : Pool H3 r fr lf n (rows.map Row.name) many := ⟨g0.ex e03, e3 _ _ (e2 _ _ h1), h3, neR hfr, neR hlf, nfl, fun x hx => by
    obtain ⟨w, hw, rfl⟩ := List.mem_map.mp hx
    exact hok w hw⟩
  have hnl : (rows.map Row.name).length = rows.length := List.length_map ..
  dsimp only [List.set]
  obtain ⟨ms, hms, ms1, ms2, ms3⟩ : ∃ ms : Nat, (if (5 * ((((rows.map Row.name).map V.str).length : Int) + (many : Nat)) + 2) / 3 < (span : Int) then (5 * ((((rows.map Row.name).map V.str).length : Int) + (many : Nat)) + 2) / 3 else (span : Int)) = (ms : Int) ∧ 1 ≤ ms ∧ ms ≤ span ∧ 3 * ms ≤ 5 * ((rows.map Row.name).length + many) + 2 := by
    rw [List.length_map]
    split
    · exact ⟨((5 * (((rows.map Row.name).length : Int) + (many : Nat)) + 2) / 3).toNat, by omega, by omega, by omega, by omega⟩
    · exact ⟨span, rfl, by omega, by omega, by omega⟩
  refine q_asg (v := .int (ms : Nat)) (ev_is (ev_cb (ea_cons (ev_var rfl) (ea_cons (ev_op (ev_op (ev_op ev_c (ev_op (ev_len (ev_var rfl) (sq_of o3.f)) (ev_var rfl) rv_I0) (rv_I (.inl ⟨by decide, by decide⟩))) ev_c rv_I0) ev_c (rv_I ⟨by decide, by decide⟩)) ea_nil)) fun H7 e7 Q1 q1 => ⟨_, _, rfl, q1 H7 (Ex.refl H7)⟩) (by rw [hms])) fun H4 e4 => ?_
  have o4 := o3.ex e4
  have fin : ∀ (span' c : Nat) (n' : Nat) H5 p nd ys m' H', Ex H H5 ∨ Bs r fr lf H4 H5 → span' ≤ 24 → n' + 6 * span' - c ≤ n + 200 → Bs r fr lf H4 H' → Pool H' r fr lf (n' + 6 * span' - c) ys m' → TreeAt H' p nd → Took nd span' (rows.map Row.name) ys many m' → Q (.ref p) H' := fun span' c n' H5 p nd ys m' H' _ hs hn' bs o tr tk =>
    hQ p nd H' (Bs.back (e03.trans e4) hfr hlf bs) (o.g.le hn') tr tk.wf (by have := tk.sz; omega) ⟨ys, tk.vs⟩
  have ea : ∀ {G : Hp}, EvA (tCons (tVar 0) (tCons (tVar 5) (tCons (tVar 6) (tCons (tVar 7) (tCons (tVar 4) tNil))))) [some (.ref r), some (.ref l), some (.int (many : Nat)), some (.int (span : Nat)), some (.int top), some (.ref fr), some (.ref lf), some (.int (ms : Nat)), none] G [.ref r, .ref fr, .ref lf, .int (ms : Nat), .int top] := ea_cons (ev_var rfl) (ea_cons (ev_var rfl) (ea_cons (ev_var rfl) (ea_cons (ev_var rfl) (ea_cons (ev_var rfl) ea_nil))))
  refine if_raw (cond_go (fun c H5 => Bu r H4 H5 ∧ Rng H5 r (n + 1) ∧ (c = true → 3 ≤ ms)) (fun KK hK => ?_) (fun c H5 hP => ?_))
  · refine and_raw ((et_test (ev_op (ev_var rfl) ev_c rv_I0)) H4 (Ex.refl H4) _ fun H5 e5 => ?_)
    by_cases h2 : (ms : Int) > 2
    · rw [if_pos (decide_eq_true h2)]
      refine test_raw (op_raw (draw_at (l := 5) (n := n) (ea_cons (ev_var rfl) (ea_cons ev_c ea_nil)) (by decide) (log_small (by decide)) (by omega) (o4.g.ex e5) fun H6 v b6 g6 v0 v1 => ⟨rfl, _, rfl, hK _ _ ⟨(Bu.of e5).trans b6, g6, fun _ => by omega⟩⟩))
    · rw [if_neg (by rw [decide_eq_false h2]; decide)]
      exact hK _ _ ⟨Bu.of e5, (o4.g.ex e5).le (by omega), fun z => nomatch z⟩
  obtain ⟨b5, g5, h3ms⟩ := hP
  have o5 := o4.bu b5 g5
  cases c with
  | true =>
    rw [if_pos rfl]
    exact ret_raw (tree_at (span := ms) (n := n + 1) ea (h3ms rfl) (by omega) (by omega) t0 t1 (by omega) o5 (by omega) (by omega) ms3 fun p nd ys m' H' bs o tr _ tk _ => fin ms 0 (n + 1) H' p nd ys m' H' (.inr ((Bs.bu b5).trans bs)) (by omega) (by omega) ((Bs.bu b5).trans bs) o tr tk)
  | false =>
    rw [if_neg (by decide)]
    refine next_raw ?_
    dsimp only
    exact ret_raw (tree_at (span := ms) (n := n + 1) ea (by omega) (by omega) (by omega) t0 t1 (by omega) o5 (by omega) (by omega) ms3 fun p nd ys m' H' bs o tr _ tk _ => fin ms 0 (n + 1) H' p nd ys m' H' (.inr ((Bs.bu b5).trans bs)) (by omega) (by omega) ((Bs.bu b5).trans bs) o tr tk)

theorem sc__law_parts : FnScope ["node"] ["node"] (defScope s__law_parts) := ⟨rfl, rfl, rfl, by decide +kernel, rfl, by decide +kernel, by decide +kernel⟩
theorem ok__law_parts (D : Df K mg "_law_parts" s__law_parts ["node"] f fd) (cin : mg "int" = none) (cli : mg "list" = none) : FnG P w K mg base CX0 1 f fd ["node"] spParts := by
  refine df_ok D sc__law_parts (fun vs H Q E h => by obtain ⟨p, nd, rfl, _⟩ := h; rfl) (fun cdv A outer s H vs Q E hG hr h => ?_)
  obtain ⟨p, n, rfl, hT, hQ⟩ := h
  refine ⟨_, pss_cons (ps_if (pt_cmpR op_in_seq (pe_ix ix_tup (pv 0) pe_int (fun _ _ => rfl)) (pe_lst (pa_cons pe_str (pa_cons pe_str pa_nil))) (by rfl)) (pss_one (ps_ret (pe_lst pa_nil))) pss_nil)
    (pss_cons (ps_if (pt_cmpR op_in_seq (pe_ix ix_tup (pv 0) pe_int (fun _ _ => rfl)) (pe_lst (pa_cons pe_str (pa_cons pe_str (pa_cons pe_str pa_nil)))) (by rfl)) (pss_one (ps_ret (pe_lst (pa_cons (pe_ix ix_tup (pv 0) (pe_op op_add (pe_callTy call_int1 (by rfl) cin (by decide +kernel) (pa_cons (pe_cmpR op_eq (pe_ix ix_tup (pv 0) pe_int (fun _ _ => rfl)) pe_str (nomark _)) pa_nil)) pe_int) (fun _ _ => rfl)) pa_nil)))) pss_nil)
    (pss_one (ps_ret (pe_callTy call_list_of (by rfl) cli (by decide +kernel) (pa_cons (pe_slice sl_tup (pv 0) (po_some pe_int) po_none) pa_nil))))), ?_⟩
  obtain ⟨rest, hd⟩ := hT.head
  have w0 : ∀ {G : Hp}, Ex H G → Ev (tOp (rIxT K) (tVar 0) (tC (.int 0))) [some (.ref p)] G (.str n.word) := fun e => ev_op (ev_var rfl) ev_c (rv_ixT (st_of (e _ _ hd)) (atI_nat (j := 0) rfl))
  have in1 : ∀ {G : Hp}, Ex H G → EvT (tTest (tOp (rIn K false) (tOp (rIxT K) (tVar 0) (tC (.int 0))) (tLst (tCons (tC (.str "var")) (tCons (tC (.str "lit")) tNil))))) [some (.ref p)] G (inV (.str n.word) [.str "var", .str "lit"]) := fun e =>
    et_test (ev_opL (xs := [.str "var", .str "lit"]) (w0 e) (el_lst (ea_cons ev_c (ea_cons ev_c ea_nil)) (by decide)) fun q G1 k f => rv_isL (sq_of k) rfl rfl)
  have in2 : ∀ {G : Hp}, Ex H G → EvT (tTest (tOp (rIn K false) (tOp (rIxT K) (tVar 0) (tC (.int 0))) (tLst (tCons (tC (.str "cast")) (tCons (tC (.str "shl")) (tCons (tC (.str "shr")) tNil)))))) [some (.ref p)] G (inV (.str n.word) [.str "cast", .str "shl", .str "shr"]) := fun e =>
    et_test (ev_opL (xs := [.str "cast", .str "shl", .str "shr"]) (w0 e) (el_lst (ea_cons ev_c (ea_cons ev_c (ea_cons ev_c ea_nil))) (by decide)) fun q G1 k f => rv_isL (sq_of k) rfl rfl)
  rcases hT.way with ⟨c1, hp⟩ | ⟨c1, c2, xs, q, e, hx, hi, hp, hq⟩ | ⟨c1, c2, qs, hx, ⟨hcut, hne⟩, hp⟩
  · refine q_when (b := true) (et_is (in1 (Ex.refl H)) c1) (fun _ H1 e1 => ?_) (fun z => nomatch z)
    refine s_retL (el_lst ea_nil (by decide)) fun l H2 n2 e2 h2 => hQ l [] H2 (fresh_back e1 n2) (e1.trans e2) h2 ?_
    rw [hp]
    trivial
  · refine q_when (b := false) (et_is (in1 (Ex.refl H)) c1) (fun z => nomatch z) (fun _ H1 e1 => ?_)
    refine q_when (b := true) (et_is (in2 e1) c2) (fun _ H2 e2 => ?_) (fun z => nomatch z)
    have e12 := e1.trans e2
    refine s_retL (el_lst (ea_cons (ev_op (ev_var rfl) (ev_op (ev_cb (z := .int (if n.word = "cast" then 1 else 0)) (ea_cons (ev_op (w0 e12) ev_c (rv_eq rfl)) ea_nil) fun H3 e3 Q1 q1 => .inr ⟨decide (V.str n.word = V.str "cast"), rfl, ?_⟩) ev_c rv_I0) (rv_ixT (st_of (e12 _ _ hx)) ?_)) ea_nil) (by simp)) fun l H3 n3 e3 h3 => hQ l [q] H3 (fresh_back e12 n3) (e12.trans e3) h3 ?_
    · have : (if decide (V.str n.word = V.str "cast") = true then (1 : Int) else 0) = if n.word = "cast" then 1 else 0 := by
        by_cases h : n.word = "cast"
        · rw [if_pos h, if_pos (decide_eq_true (by rw [h]))]
        · rw [if_neg h, if_neg (by rw [decide_eq_false fun z => h (V.str.inj z)]; decide)]
      rw [this]
      exact q1 H3 (Ex.refl H3)
    · have : ((if n.word = "cast" then (1 : Int) else 0) + 1) = (((if n.word = "cast" then 1 else 0) + 1 : Nat) : Int) := by split <;> rfl
      rw [this]
      exact atI_nat hi
    · rw [hp]
      exact ⟨hq.ex (e12.trans e3), trivial⟩
  · refine q_when (b := false) (et_is (in1 (Ex.refl H)) c1) (fun z => nomatch z) (fun _ H1 e1 => ?_)
    refine q_when (b := false) (et_is (in2 e1) c2) (fun z => nomatch z) (fun _ H2 e2 => ?_)
    have e12 := e1.trans e2
    refine ret_raw (?_ : tSl _ _ _ _ _ _ _)
    refine ⟨_, rfl, 1, rfl, p, _, rfl, st_of (e12 _ _ hx), fun z => hne z.1, fun t nt => ⟨t, _, rfl, .inr (st_of upd_same), fun l nl => ?_⟩⟩
    rw [hcut]
    have eT : Ex H2 (upd H2 t (.tup (qs.map V.ref))) := Ex.new nt
    rw [hcut] at nl
    have eL : Ex (upd H2 t (.tup (qs.map V.ref))) (upd (upd H2 t (.tup (qs.map V.ref))) l (.lst (qs.map V.ref))) := Ex.new nl
    exact hQ l qs _ (fresh_back (e12.trans eT) nl) ((e12.trans eT).trans eL) upd_same (hp.tk (TupK.of ((e12.trans eT).trans eL)))

theorem sc__law_literal : FnScope ["scheme", "far", "suffix", "signed", "rank"] ["scheme", "far", "suffix"] (defScope s__law_literal) := ⟨rfl, rfl, rfl, by decide +kernel, rfl, by decide +kernel, by decide +kernel⟩
theorem ok__law_literal (D : Df K mg "_law_literal" s__law_literal ["scheme", "far", "suffix"] f fd) (ch : Cl P w K mg base 3 "_law_holds" ["scheme", "label", "far"] (PV (preMKI K fun m k i => .bl (decide (m.low k ≤ i ∧ i ≤ m.high k))))) (co : Cl P w K mg base 1 "_law_of" ["rank", "signed"] (PV preOf)) (cin : mg "int" = none) : FnG P w K mg base CX0 4 f fd ["scheme", "far", "suffix"] (PV (preLit K)) := by
  refine df_ok D sc__law_literal (pre_len1 fun vs H v h => by obtain ⟨p, m, n, s, rfl, _⟩ := h; rfl) (fun cdv A outer s H vs Q E hG hr h => ?_)
  obtain ⟨v, ⟨p, m, n, sf, rfl, hm, ho, hs, rfl⟩, hQ⟩ := h
  have nd := sc__law_literal.nd
  refine ⟨_, (pss_cons (ps_par (i := 3) (j := 4) rfl nd rfl rfl (by decide) rfl rfl (pa_cons (pe_cmpR op_notin_str pe_str (pv 2) (by rfl)) (pa_cons (pe_op op_add (pe_op op_add pe_int (pe_callTy call_int1 (by rfl) cin (by decide +kernel) (pa_cons (pe_cmpR op_in_str pe_str (pv 2) (by rfl)) pa_nil))) (pe_op op_mul pe_int (pe_callTy call_int1 (by rfl) cin (by decide +kernel) (pa_cons (pe_cmpR op_in_str pe_str (pv 2) (by rfl)) pa_nil)))) pa_nil)) (by rfl)) (pss_cons (ps_while PassesOwn.never (pt_cmpR op_lt (pv 4) pe_int (nomark _)) (pss_cons (ps_if (pt_val (pe_cl ch hG hr rfl (pa_cons (pv 0) (pa_cons (pe_cl co hG hr rfl (pa_cons (pv 4) (pa_cons (pv 3) pa_nil))) (pa_cons (pv 1) pa_nil))))) (pss_one (ps_ret (pe_cl co hG hr rfl (pa_cons (pv 4) (pa_cons (pv 3) pa_nil))))) pss_nil) (pss_one (ps_set (i := 4) nd rfl (.inl rfl) (pe_op op_add (pv 4) pe_int))))) (pss_one (ps_ret pe_non)))), ?_⟩
  obtain ⟨f1, f2, _, _, _, s2, s4⟩ := suf_facts hs
  refine q_par (x := .bl (sgOf sf)) (y := .int (stOf sf : Nat)) (ev_is (ev_op ev_c (ev_var rfl) rv_niS) (by rw [f1]; simp)) (ev_is (ev_op (ev_op ev_c (ev_int1 (ev_op ev_c (ev_var rfl) rv_inS)) rv_I0) (ev_op ev_c (ev_int1 (ev_op ev_c (ev_var rfl) rv_inS)) (rv_I (.inl ⟨by decide, by decide⟩))) rv_I0) (by rw [← f2]; congr 1; split <;> split <;> rfl)) fun H1 e1 => ?_
  refine q_while (fun j σ H' => Ex H H' ∧ j ≤ 5 - stOf sf ∧ m.litR n (sgOf sf) j = m.lit n sf ∧ σ = [some (.ref p), some (.int n), some (.str sf), some (.bl (sgOf sf)), some (.int ((5 - j : Nat) : Nat))]) (5 - stOf sf) ⟨e1, Nat.le_refl _, rfl, by rw [show 5 - (5 - stOf sf) = stOf sf by omega]; rfl⟩ fun j σ H' hw => ?_
  obtain ⟨e2, hj, hl, rfl⟩ := hw
  refine ⟨_, et_test (ev_op (ev_var rfl) ev_c rv_I0), fun hb H3 e3 => ?_, fun hb H3 e3 => ?_⟩
  · have hb := of_decide_eq_true hb
    obtain ⟨i, rfl⟩ : ∃ i, j = i + 1 := ⟨j - 1, by omega⟩
    have er : 5 - (i + 1) = 4 - i := by omega
    rw [er]
    have hm3 := hm.ex (e2.trans e3)
    refine ⟨fun σ' H'' => Ex H H'' ∧ σ' = [some (.ref p), some (.int n), some (.str sf), some (.bl (sgOf sf)), some (.int ((5 - i : Nat) : Nat))] ∧ m.litR n (sgOf sf) i = m.lit n sf, fun σ2 H2 h2 => ⟨i, by omega, h2.1, by omega, h2.2.2, h2.2.1⟩, ?_⟩
    refine q_when (et_B (ev_call (ea_cons (ev_var rfl) (ea_cons (ev_call (ea_cons (ev_var rfl) (ea_cons (ev_var rfl) ea_nil)) (spOf (r := 4 - i) (by omega) (by omega))) (ea_cons (ev_var rfl) ea_nil))) (spMKI hm3 ho))) (fun hb2 H4 e4 => ?_) (fun hb2 H4 e4 => ?_)
    · refine s_ret (ev_call (ea_cons (ev_var rfl) (ea_cons (ev_var rfl) ea_nil)) (spOf (r := 4 - i) (by omega) (by omega))) fun H5 e5 => ?_
      have : m.lit n sf = some (lawOf (4 - i) (sgOf sf)) := by
        rw [← hl]
        exact if_pos hb2
      rw [this] at hQ
      exact hQ H5 ((e2.trans e3).trans (e4.trans e5))
    · refine s_asg (ev_op (ev_var rfl) ev_c rv_I0) fun H5 e5 => ⟨(e2.trans e3).trans (e4.trans e5), ?_, ?_⟩
      · show _ = _
        have : (((4 - i : Nat) : Int) + 1) = ((5 - i : Nat) : Int) := by omega
        rw [this]
        rfl
      · rw [← hl]
        exact (if_neg (by rw [show m.hol (lawOf (4 - i) (sgOf sf)) n = false from hb2]; decide)).symm
  · have hb := of_decide_eq_false hb
    have : j = 0 := by omega
    subst this
    refine s_ret ev_c fun H4 e4 => ?_
    rw [← hl] at hQ
    exact hQ H4 ((e2.trans e3).trans e4)

theorem sc__law_label_of : FnScope ["scheme", "labels_here", "node", "word", "both", "part"] ["scheme", "labels_here", "node"] (defScope s__law_label_of) := ⟨rfl, rfl, rfl, by decide +kernel, rfl, by decide +kernel, by decide +kernel⟩
theorem step__law_label_of {d k : Nat} (D : Df K mg "_law_label_of" s__law_label_of ["scheme", "labels_here", "node"] f fd) (hk4 : 4 ≤ k) (cl : Cl P w K mg base 4 "_law_literal" ["scheme", "far", "suffix"] (PV (preLit K))) (cp : Cl P w K mg base 3 "_law_promoted" ["scheme", "label"] (PV (preMK K fun m k => (m.prom k).v))) (cc : Cl P w K mg base 4 "_law_common" ["scheme", "one", "two"] (PV (preMKK K fun m k l => (m.com k l).v))) (cle : mg "len" = none)
    (cs : Cl P w K mg base k "_law_label_of" ["scheme", "labels_here", "node"] (PV (preLab K d))) : FnG P w K mg base CX0 (k + 1) f fd ["scheme", "labels_here", "node"] (PV (preLab K (d + 1))) := by
  refine df_ok D sc__law_label_of (pre_len1 fun vs H v h => by obtain ⟨sch, nm, q, m, rows, nd, rfl, _⟩ := h; rfl) (fun cdv A outer s H vs Q E hG hr h => ?_)
  obtain ⟨v, ⟨sch, nm, q, m, rows, nd, rfl, hm, ho, hn, hT, hk, hs, rfl⟩, hQ⟩ := h
  have ndp := sc__law_label_of.nd
  have hu := hu_of hr
  refine ⟨_, (pss_cons (ps_set (i := 3) ndp rfl (.inl rfl) (pe_ix ix_tup (pv 2) pe_int (fun _ _ => rfl))) (pss_cons (ps_if (pt_cmpR op_eq (pv 3) pe_str (nomark _)) (pss_one (ps_ret (pe_dget hu (pv 1) (pe_ix ix_tup (pv 2) pe_int (fun _ _ => rfl)) (fun _ _ => rfl)))) pss_nil) (pss_cons (ps_if (pt_cmpR op_eq (pv 3) pe_str (nomark _)) (pss_one (ps_ret (pe_cl cl hG hr rfl (pa_cons (pv 0) (pa_cons (pe_ix ix_tup (pv 2) pe_int (fun _ _ => rfl)) (pa_cons (pe_ix ix_tup (pv 2) pe_int (fun _ _ => rfl)) pa_nil))) (by omega)))) pss_nil) (pss_cons (ps_if (pt_cmpR op_eq (pv 3) pe_str (nomark _)) (pss_one (ps_ret (pe_ix ix_tup (pv 2) pe_int (fun _ _ => rfl)))) pss_nil) (pss_cons (ps_if (pt_cmpR op_in_seq (pv 3) (pe_lst (pa_cons pe_str (pa_cons pe_str (pa_cons pe_str (pa_cons pe_str (pa_cons pe_str pa_nil)))))) (by rfl)) (pss_one (ps_ret pe_non)) pss_nil) (pss_cons (ps_if (pt_cmpR op_in_seq (pv 3) (pe_lst (pa_cons pe_str (pa_cons pe_str (pa_cons pe_str pa_nil)))) (by rfl)) (pss_one (ps_ret (pe_cl cp hG hr rfl (pa_cons (pv 0) (pa_cons (pe_cl cs hG hr rfl (pa_cons (pv 0) (pa_cons (pv 1) (pa_cons (pe_ix ix_tup (pv 2) pe_int (fun _ _ => rfl)) pa_nil))) (Nat.le_refl _)) pa_nil)) (by omega)))) pss_nil) (pss_cons (ps_setLc (i := 4) (own := [("part", 5)]) (g := gName 5) (tt := tYes) rfl ndp rfl rfl (sw_true rfl rfl rfl (by decide +kernel)) (pi_tup (pe_slice sl_tup (pv 2) (po_some (pe_op op_sub (pe_callB call_len_seq (by rfl) cle PySem.boot_len (pa_cons (pv 2) pa_nil)) pe_int)) po_none)) (blkOk_by (N := ["scheme", "labels_here", "node", "word", "both", "part"]) (sc := defScope s__law_label_of) (by decide +kernel)) (fun _ _ _ _ _ => pg_name (i := 5) ndp rfl (Or.inl rfl)) (fun _ _ _ _ _ => pts_nil) (fun _ _ _ _ _ => pe_cl cs hG hr rfl (pa_cons (pv 0) (pa_cons (pv 1) (pa_cons (pv 5) pa_nil))) (Nat.le_refl _))) (pss_one (ps_ret (pe_cl cc hG hr rfl (pa_cons (pv 0) (pa_cons (pe_ix ix_list (pv 4) pe_int (fun _ _ => rfl)) (pa_cons (pe_ix ix_list (pv 4) pe_int (fun _ _ => rfl)) pa_nil))) (by omega))))))))))), ?_⟩
  obtain ⟨rest, hd⟩ := hT.head
  refine q_asg (v := .str nd.word) (ev_op (ev_var rfl) ev_c (rv_ixT (st_of hd) (atI_nat (j := 0) rfl))) fun H1 e1 => ?_
  dsimp only [List.set]
  refine q_when (b := decide (V.str nd.word = V.str "var")) (et_test (ev_op (ev_var rfl) ev_c (rv_eq rfl))) (fun hb H2 e2 => ?_) (fun hb H2 e2 => ?_)
  · obtain ⟨x, rfl⟩ := word_var (V.str.inj (of_decide_eq_true hb))
    have e12 := e1.trans e2
    obtain ⟨k, hkx⟩ := hk.2.2 x (List.mem_cons_self ..)
    have hp : H2 q = some (.tup [.str "var", .str x]) := e12 _ _ hT
    refine s_ret (ev_dgetV (ev_var rfl) (ev_op (ev_var rfl) ev_c (rv_ixT (st_of hp) (atI_nat (j := 1) rfl))) (e12 _ _ hn) (by rw [kind_val, hkx]; rfl)) fun H3 e3 => ?_
    have := hQ H3 (e12.trans e3)
    rw [tyV_E (m := m) (rows := rows) (nd := .var x) (k := k) rfl hkx] at this
    exact this
  have n1 : nd.word ≠ "var" := fun z => of_decide_eq_false hb (by rw [z])
  refine q_when (b := decide (V.str nd.word = V.str "lit")) (et_test (ev_op (ev_var rfl) ev_c (rv_eq rfl))) (fun hb H3 e3 => ?_) (fun hb H3 e3 => ?_)
  · obtain ⟨n, sf, rfl⟩ := word_lit (V.str.inj (of_decide_eq_true hb))
    have e13 := (e1.trans e2).trans e3
    have hp : H3 q = some (.tup [.str "lit", .int n, .str sf]) := e13 _ _ hT
    exact s_ret (ev_call (ea_cons (ev_var rfl) (ea_cons (ev_op (ev_var rfl) ev_c (rv_ixT (st_of hp) (atI_nat (j := 1) rfl))) (ea_cons (ev_op (ev_var rfl) ev_c (rv_ixT (st_of hp) (atI_nat (j := 2) rfl))) ea_nil))) (spLit (hm.ex e13) ho hk.1.2.2)) fun H4 e4 => hQ H4 (e13.trans e4)
  have n2 : nd.word ≠ "lit" := fun z => of_decide_eq_false hb (by rw [z])
  refine q_when (b := decide (V.str nd.word = V.str "cast")) (et_test (ev_op (ev_var rfl) ev_c (rv_eq rfl))) (fun hb H4 e4 => ?_) (fun hb H4 e4 => ?_)
  · obtain ⟨k, e, rfl⟩ := word_cast (V.str.inj (of_decide_eq_true hb))
    have e14 := ((e1.trans e2).trans e3).trans e4
    obtain ⟨q2, hp, _⟩ := id hT
    exact s_ret (ev_op (ev_var rfl) ev_c (rv_ixT (st_of (e14 _ _ hp)) (atI_nat (j := 1) rfl))) fun H5 e5 => hQ H5 (e14.trans e5)
  have n3 : nd.word ≠ "cast" := fun z => of_decide_eq_false hb (by rw [z])
  have e14 := ((e1.trans e2).trans e3).trans e4
  refine q_when (b := !nd.isE) (et_is (et_test (ev_opL (xs := [.str "less", .str "most", .str "not", .str "and", .str "or"]) (ev_var rfl) (el_lst (ea_cons ev_c (ea_cons ev_c (ea_cons ev_c (ea_cons ev_c (ea_cons ev_c ea_nil))))) (by simp)) fun q G1 k f => rv_isL (sq_of k) rfl rfl)) (cond_in nd)) (fun hb H5 e5 => ?_) (fun hb H5 e5 => ?_)
  · refine s_ret ev_c fun H6 e6 => ?_
    have := hQ H6 (e14.trans (e5.trans e6))
    unfold tyV at this
    rw [if_neg (by cases h : nd.isE with | true => rw [h] at hb; exact nomatch hb | false => decide)] at this
    exact this
  have hE : nd.isE = true := by cases h : nd.isE with | true => rfl | false => rw [h] at hb; exact nomatch hb
  have e15 := e14.trans e5
  refine q_when (et_test (ev_opL (xs := [.str "neg", .str "shl", .str "shr"]) (ev_var rfl) (el_lst (ea_cons ev_c (ea_cons ev_c (ea_cons ev_c ea_nil))) (by simp)) fun q G1 k f => rv_isL (sq_of k) rfl rfl)) (fun hc H6 e6 => ?_) (fun hc H6 e6 => ?_)
  · have e16 := e15.trans e6
    obtain ⟨xs, q2, e, hx, hx1, hpe, hTe, heE, _, hown⟩ := prom_at (hT.ex e16) hk.1 hc
    have hme : e ∈ nd.parts := by rw [hpe]; exact List.mem_cons_self ..
    have hke := hk.part hme
    obtain ⟨ke, hko⟩ := hke.some (isE_hasK heE)
    have hsz := (parts_wf hk.1 e hme).2
    refine s_ret (ev_call (ea_cons (ev_var rfl) (ea_cons (ev_is (ev_call (ea_cons (ev_var rfl) (ea_cons (ev_var rfl) (ea_cons (ev_op (ev_var rfl) ev_c (rv_ixT (st_of hx) (atI_nat (j := 1) hx1))) ea_nil))) (spLab (d := d) (hm.ex e16) ho (e16 _ _ hn) hTe hke (by omega))) (tyV_E heE hko)) ea_nil)) (spMK (k := ke) (hm.ex e16) ho)) fun H7 e7 => ?_
    have := hQ H7 (e16.trans e7)
    rw [tyV_E (k := m.prom ke) hE (by rw [hown, hko]; rfl)] at this
    exact this
  have e16 := e15.trans e6
  obtain ⟨xs, qe, qf, e, f2, hx, hcut, hne, hTe, hTf, hme, hmf, heE, hfE, hown⟩ := comb_at (hT.ex e16) hk.1 n1 n2 n3 hE hc
  obtain ⟨ke, hko⟩ := (hk.part hme).some (isE_hasK heE)
  obtain ⟨kf, hkf⟩ := (hk.part hmf).some (isE_hasK hfE)
  have hse := (parts_wf hk.1 e hme).2
  have hsf := (parts_wf hk.1 f2 hmf).2
  have eS : EvU (tSl (rSlT K) (tVar 2) (tPart (tOp (fun x y H Q => ∃ i j, x = .int i ∧ y = .int j ∧ Q (.int (i - j)) H) (tCB (fun xs H Q => ∃ a ys, xs = [.ref a] ∧ (SqL K H a ys ∨ SqT K H a ys) ∧ Q (.int ys.length) H) (tCons (tVar 2) tNil)) (tC (.int 2)))) tNoPart) [some (.ref sch), some (.ref nm), some (.ref q), some (.str nd.word), none, none] H6 [.ref qe, .ref qf] := fun H7 e7 Q2 q2 =>
    ⟨_, rfl, (ev_op (ev_cb (z := .int (xs.length : Nat)) (ea_cons (ev_var rfl) ea_nil) fun H8 e8 Q3 q3 => ⟨q, _, rfl, .inr (st_of (e8 _ _ (e7 _ _ hx))), q3 H8 (Ex.refl H8)⟩) ev_c rv_I0) H7 (Ex.refl H7) _ fun H8 e8 => ⟨_, rfl, _, _, rfl, st_of (e8 _ _ (e7 _ _ hx)), fun z => hne z.1, fun t nt => q2 t _ (fresh_back e8 nt) (e8.trans (Ex.new nt)) (by rw [upd_same, hcut])⟩⟩
  refine q_raw ?_
  refine (el_lcU (K := K) (xs := [.ref qe, .ref qf]) (fun c => if c = 0 then ke.v else kf.v) eS (by simp) (fun y => rfl) (fun c y H7 e7 hc => ?_)) H6 (Ex.refl H6) _ fun bl H7 n7 e7 hbl => ?_
  · match c, hc with
    | 0, hc =>
      cases (Option.some.inj hc)
      exact ev_is (ev_call (ea_cons (ev_var rfl) (ea_cons (ev_var rfl) (ea_cons (ev_var rfl) ea_nil))) (spLab (d := d) ((hm.ex e16).ex e7) ho (e7 _ _ (e16 _ _ hn)) (hTe.ex e7) (hk.part hme) (by omega))) (tyV_E heE hko)
    | 1, hc =>
      cases (Option.some.inj hc)
      exact ev_is (ev_call (ea_cons (ev_var rfl) (ea_cons (ev_var rfl) (ea_cons (ev_var rfl) ea_nil))) (spLab (d := d) ((hm.ex e16).ex e7) ho (e7 _ _ (e16 _ _ hn)) (hTf.ex e7) (hk.part hmf) (by omega))) (tyV_E hfE hkf)
  have hbl2 : H7 bl = some (.lst [ke.v, kf.v]) := hbl
  try dsimp only [List.set]
  have e17 := e16.trans e7
  refine s_ret (ev_call (ea_cons (ev_var rfl) (ea_cons (ev_op (ev_var rfl) ev_c (rv_ixL (sq_of hbl2) (atI_nat (j := 0) rfl))) (ea_cons (ev_op (ev_var rfl) ev_c (rv_ixL (sq_of hbl2) (atI_nat (j := 1) rfl))) ea_nil))) (spMKK (hm.ex e17) ho)) fun H8 e8 => ?_
  have := hQ H8 (e17.trans e8)
  rw [tyV_E (k := m.com ke kf) hE (by rw [hown, hko, hkf]; rfl)] at this
  exact this

theorem sc__law_admission : FnScope ["scheme", "given", "node", "path", "row", "at", "part", "found"] ["scheme", "given", "node", "path"] (defScope s__law_admission) := ⟨rfl, rfl, rfl, by decide +kernel, rfl, by decide +kernel, by decide +kernel⟩
theorem step__law_admission {d k : Nat} (D : Df K mg "_law_admission" s__law_admission ["scheme", "given", "node", "path"] f fd) (hk : 4 ≤ k) (ch : Cl P w K mg base 3 "_law_holds" ["scheme", "label", "far"] (PV (preMKI K fun m k i => .bl (decide (m.low k ≤ i ∧ i ≤ m.high k))))) (cl : Cl P w K mg base 4 "_law_literal" ["scheme", "far", "suffix"] (PV (preLit K))) (cp : Cl P w K mg base 1 "_law_parts" ["node"] spParts) (cen : mg "enumerate" = none)
    (cs : Cl P w K mg base k "_law_admission" ["scheme", "given", "node", "path"] (spAdm K d)) : FnG P w K mg base CX0 (k + 1) f fd ["scheme", "given", "node", "path"] (spAdm K (d + 1)) := by
  refine df_ok D sc__law_admission (fun vs H Q E h => by obtain ⟨sch, l, p, t, m, rows, nd, pt, rfl, _⟩ := h; rfl) (fun cdv A outer s H vs Q E hG hr h => ?_)
  obtain ⟨sch, l, p, t, m, rows, nd, pt, rfl, hm, ho, hV, hT, hw, hsz, ht, hpt, hQ⟩ := h
  have ndp := sc__law_admission.nd
  have k3 : 3 ≤ k := by omega
  have k1 : 1 ≤ k := by omega
  refine ⟨_, (pss_cons (ps_for PassesOwn.never rfl (pi_list (pv 1)) (pg_name (i := 4) ndp rfl (.inl rfl))
        (pss_one (ps_if (PW.pt (pw_or (pt_not (pt_val (pe_cl ch hG hr rfl (pa_cons (pv 0) (pa_cons (pe_ix ix_tup (pv 4) pe_int (fun _ _ => rfl)) (pa_cons (pe_ix ix_tup (pv 4) pe_int (fun _ _ => rfl)) pa_nil))) k3))) (pw_or1 (pt_not (pt_val (pe_cl ch hG hr rfl (pa_cons (pv 0) (pa_cons (pe_ix ix_tup (pv 4) pe_int (fun _ _ => rfl)) (pa_cons (pe_ix ix_tup (pv 4) pe_int (fun _ _ => rfl)) pa_nil))) k3))))))
          (pss_one (ps_ret (pe_tup (pa_cons pe_str (pa_cons (pe_ix ix_tup (pv 4) pe_int (fun _ _ => rfl)) pa_nil))))) pss_nil))) (pss_cons (ps_if (PW.pt (pw_and (pt_cmpR op_eq (pe_ix ix_tup (pv 2) pe_int (fun _ _ => rfl)) pe_str (nomark _)) (pw_and1 (pt_cmpR op_isN (pe_cl cl hG hr rfl (pa_cons (pv 0) (pa_cons (pe_ix ix_tup (pv 2) pe_int (fun _ _ => rfl)) (pa_cons (pe_ix ix_tup (pv 2) pe_int (fun _ _ => rfl)) pa_nil))) hk) pe_non (nomark _)))))
        (pss_one (ps_ret (pe_tup (pa_cons pe_str (pa_cons (pv 3) pa_nil))))) pss_nil) (pss_cons (ps_for PassesOwn.never rfl (pi_enum (by rfl) cen (pa_cons (pe_cl cp hG hr rfl (pa_cons (pv 2) pa_nil) k1) pa_nil)) (pg_tup rfl (pgs_cons (pg_name (i := 5) ndp rfl (.inl rfl)) (pgs_cons (pg_name (i := 6) ndp rfl (.inl rfl)) pgs_nil)))
        (pss_cons (ps_set (i := 7) ndp rfl (.inl rfl) (pe_cl cs hG hr rfl (pa_cons (pv 0) (pa_cons (pe_lst pa_nil) (pa_cons (pv 6) (pa_cons (pe_op op_catA (pv 3) (pe_tup (pa_cons (pv 5) pa_nil))) pa_nil)))) (Nat.le_refl _))) (pss_one (ps_if (pt_cmpR op_notN (pv 7) pe_non (nomark _)) (pss_one (ps_ret (pv 7))) pss_nil)))) (pss_one (ps_ret pe_non))))), ?_⟩
  obtain ⟨ps, hl, hlen, hrow⟩ := id hV
  have isN : ∀ {σ : L2.St} {H : Hp} {te : TE} {x : V}, Ev te σ H x → EvT (tTest (tOp (fun x y H Q => y = .non ∧ Q (.bl (decide (x = .non))) H) te (tC .non))) σ H (decide (x = .non)) := fun h => et_test (ev_op h ev_c fun H1 _ Q q => ⟨rfl, q H1 (Ex.refl H1)⟩)
  refine q_forL (K := K) (xs := ps.map V.ref) (a := l) (ev_var rfl) (sq_of hl) (fun i σ G => Ex H G ∧ (∀ j w, j < i → rows[j]? = some w → m.rowOk w = true) ∧ ∃ y4, σ = [some (.ref sch), some (.ref l), some (.ref p), some (.ref t), y4, none, none, none]) (fun G e => ⟨e, fun j w h => absurd h (Nat.not_lt_zero _), none, rfl⟩) (fun i σ G _ h => ex_l h.1 (sq_of hl)) ?_ ?_
  · intro i x σ G hx hp
    obtain ⟨e, hok, y4, rfl⟩ := hp
    rw [List.getElem?_map] at hx
    obtain ⟨q, hq, rfl⟩ := Option.map_eq_some_iff.mp hx
    have hi : i < rows.length := by
      have := (List.getElem?_eq_some_iff.mp hq).1
      rw [hlen] at this
      exact this
    have hri : rows[i]? = some rows[i] := List.getElem?_eq_getElem hi
    obtain ⟨p2, q1, q2⟩ := hrow i rows[i] hri
    rw [hq] at q1
    cases q1
    generalize rows[i] = wr at hri q2
    dsimp only [gName, List.set]
    have it : ∀ {G' : Hp} {j : Nat} {v : V}, Ex H G' → wr.vs[j]? = some v → Ev (tOp (rIxT K) (tVar 4) (tC (.int (j : Nat)))) [some (.ref sch), some (.ref l), some (.ref p), some (.ref t), some (.ref q), none, none, none] G' v := fun e' h => ev_op (ev_var rfl) ev_c (rv_ixT (st_of (e' _ _ q2)) (atI_nat h))
    refine s_when (et_or (et_not (et_B (ev_call (ea_cons (ev_var rfl) (ea_cons (it (j := 1) e rfl) (ea_cons (it (j := 2) e rfl) ea_nil))) (spMKI (hm.ex e) ho)))) (fun _ => et_not (et_B (ev_call (ea_cons (ev_var rfl) (ea_cons (it (j := 1) e rfl) (ea_cons (it (j := 3) e rfl) ea_nil))) (spMKI (hm.ex e) ho))))) (fun hb G1 e1 => ?_) (fun hb G1 e1 => ?_)
    · refine s_retU (eu_tup (ea_cons ev_c (ea_cons (it (j := 0) (e.trans e1) rfl) ea_nil)) (by simp)) fun a G2 n2 e2 h2 => hQ _ G2 (e.trans (e1.trans e2)) ?_
      have hf : admV m rows = some wr.name := by
        unfold admV
        rw [find_at hri (show (!m.rowOk wr) = true by rw [← hb]; exact Bool.not_and ..) fun j y hj hy => by rw [hok j y hj hy]; rfl]
        rfl
      unfold admD
      rw [hf]
      exact .tup (st_of h2) (.cons (.str _) (.cons (.str _) .nil))
    · refine ⟨e.trans e1, fun j y hj hy => ?_, _, rfl⟩
      rcases Nat.lt_or_ge j i with h | h
      · exact hok j y h hy
      · have : j = i := by omega
        subst this
        rw [hri] at hy
        cases hy
        have hb2 : (!m.rowOk wr) = false := by rw [← hb]; exact Bool.not_and ..
        cases hx : m.rowOk wr with
        | true => rfl
        | false => rw [hx] at hb2; exact nomatch hb2
  intro σ G hp
  obtain ⟨e, hok, y4, rfl⟩ := hp
  have hf : admV m rows = none := by
    have h0 : rows.find? (fun w => !m.rowOk w) = none := find_no fun j y hy => by
      rw [hok j y (by rw [List.length_map, hlen]; exact (List.getElem?_eq_some_iff.mp hy).1) hy]
      rfl
    unfold admV
    rw [h0]
    rfl
  have hQ2 : ∀ v H', Ex H H' → Dp K H' v (match nd.bad m with | some q => .tuple [.str "literal", pathD (pt ++ q)] | none => .none) → Q v H' := fun v H' e h => hQ v H' e (by unfold admD; rw [hf]; exact h)
  obtain ⟨rest, hd⟩ := hT.head
  have w0 : ∀ {G' : Hp}, Ex H G' → Ev (tOp (rIxT K) (tVar 2) (tC (.int 0))) [some (.ref sch), some (.ref l), some (.ref p), some (.ref t), y4, none, none, none] G' (.str nd.word) := fun e => ev_op (ev_var rfl) ev_c (rv_ixT (st_of (e _ _ hd)) (atI_nat (j := 0) rfl))
  have lit : (∃ n s, nd = .lit n s) ∨ nd.word ≠ "lit" := by
    by_cases h : nd.word = "lit"
    · exact .inl (word_lit h)
    · exact .inr h
  have hne : ∀ {G' : Hp}, Ex H G' → (∀ n s, nd = .lit n s → m.lit n s ≠ none) → EvT (tAnd (tTest (tOp rEq (tOp (rIxT K) (tVar 2) (tC (.int 0))) (tC (.str "lit")))) (tTest (tOp (fun x y H Q => y = .non ∧ Q (.bl (decide (x = .non))) H) (tCall (PV (preLit K)) [] E0 (tCons (tVar 0) (tCons (tOp (rIxT K) (tVar 2) (tC (.int 1))) (tCons (tOp (rIxT K) (tVar 2) (tC (.int 2))) tNil)))) (tC .non)))) [some (.ref sch), some (.ref l), some (.ref p), some (.ref t), y4, none, none, none] G' false := fun {G'} e' hn => by
    rcases lit with ⟨n, sf, rfl⟩ | hnl
    · have hp : G' p = some (.tup [.str "lit", .int n, .str sf]) := e' _ _ hT
      refine et_is (et_and (a := true) (b := false) (et_is (et_test (ev_op (w0 e') ev_c (rv_eq rfl))) (decide_eq_true rfl)) fun _ => et_is (isN (x := optV (m.lit n sf)) (ev_call (ea_cons (ev_var rfl) (ea_cons (ev_op (ev_var rfl) ev_c (rv_ixT (st_of hp) (atI_nat (j := 1) rfl))) (ea_cons (ev_op (ev_var rfl) ev_c (rv_ixT (st_of hp) (atI_nat (j := 2) rfl))) ea_nil))) (spLit (hm.ex e') ho hw.2.2))) ?_) rfl
      have := hn n sf rfl
      cases hx : m.lit n sf with
      | none => exact absurd hx this
      | some kd => cases kd <;> rfl
    · exact et_is (et_and (a := false) (b := false) (et_is (et_test (ev_op (w0 e') ev_c (rv_eq rfl))) (decide_eq_false fun z => hnl (V.str.inj z))) fun z => nomatch z) rfl
  by_cases hb : ∃ n sf, nd = .lit n sf ∧ m.lit n sf = none
  · obtain ⟨n, sf, rfl, hbn⟩ := hb
    have hp : G p = some (.tup [.str "lit", .int n, .str sf]) := e _ _ hT
    refine q_when (b := true) (et_is (et_and (a := true) (b := true) (et_is (et_test (ev_op (w0 e) ev_c (rv_eq rfl))) (decide_eq_true rfl)) fun _ => et_is (isN (x := optV (m.lit n sf)) (ev_call (ea_cons (ev_var rfl) (ea_cons (ev_op (ev_var rfl) ev_c (rv_ixT (st_of hp) (atI_nat (j := 1) rfl))) (ea_cons (ev_op (ev_var rfl) ev_c (rv_ixT (st_of hp) (atI_nat (j := 2) rfl))) ea_nil))) (spLit (hm.ex e) ho hw.2.2))) (by rw [hbn]; rfl)) rfl) (fun _ G1 e1 => ?_) (fun z => nomatch z)
    refine s_retU (eu_tup (ea_cons ev_c (ea_cons (ev_var rfl) ea_nil)) (by simp)) fun a G2 n2 e2 h2 => hQ2 _ G2 (e.trans (e1.trans e2)) ?_
    have : (Nd.lit n sf).bad m = some [] := if_pos hbn
    rw [this]
    dsimp only
    rw [List.append_nil]
    exact .tup (st_of h2) (.cons (.str _) (.cons (path_dp (ex_t (e.trans (e1.trans e2)) ht)) .nil))
  have hnb : ∀ n s, nd = .lit n s → m.lit n s ≠ none := fun n s h1 h2 => hb ⟨n, s, h1, h2⟩
  refine q_when (b := false) (hne e hnb) (fun z => nomatch z) (fun _ G1 e1 => ?_)
  have e01 := e.trans e1
  rw [bad_parts hnb] at hQ2
  refine (ev_var (v := .ref p) rfl) G1 (Ex.refl G1) _ fun G2 e2 => ⟨p, nd, rfl, hT.ex (e01.trans e2), fun lq qs G3 n3 e3 h3 hP => ?_⟩
  have e03 := (e01.trans e2).trans e3
  refine ⟨lq, qs.map V.ref, rfl, sq_of h3, for_it (n := (qs.map V.ref).length) walk_enum (fun i σ G' => Ex G3 G' ∧ (∀ (j : Nat) (x : Nd), j < i → nd.parts[j]? = some x → x.bad m = none) ∧ ∃ y5 y6 y7, σ = [some (.ref sch), some (.ref l), some (.ref p), some (.ref t), y4, y5, y6, y7]) ⟨Ex.refl G3, fun j x h => absurd h (Nat.not_lt_zero _), none, none, none, rfl⟩ (fun i σ G' _ h => ex_l h.1 (sq_of h3)) ?_ ?_⟩
  · intro i x σ G' G'' hi hp hy
    obtain ⟨e4, hno, y5, y6, y7, rfl⟩ := hp
    obtain ⟨T, x5, x6, rfl, hTn, rfl, h5, h6⟩ := hy
    cases h5
    have h6 : (qs.map V.ref)[i]? = some x6 := h6
    rw [List.getElem?_map] at h6
    obtain ⟨q, hq, rfl⟩ := Option.map_eq_some_iff.mp h6
    have eT : Ex G' (upd G' T (.tup [.int (i : Nat), .ref q])) := Ex.new hTn
    have hT2 : (upd G' T (.tup [.int (i : Nat), .ref q])) T = some (.tup [.int (i : Nat), .ref q]) := upd_same
    generalize upd G' T (.tup [.int (i : Nat), .ref q]) = G5 at eT hT2 ⊢
    refine ⟨T, _, rfl, st_of hT2, rfl, _, _, rfl, _, _, rfl, rfl, ?_⟩
    dsimp only [List.set]
    have e05 := e03.trans (e4.trans eT)
    obtain ⟨hPl, hPa⟩ := hP.at
    obtain ⟨en, hen, hTe⟩ := hPa i q hq
    obtain ⟨hwe, hse⟩ := parts_wf hw en (List.mem_of_getElem? hen)
    refine q_raw ?_
    refine ea_at (ev_var rfl) fun G6 e6 => ea_atL (el_lst ea_nil (by simp)) fun lg G7 n7 e7 h7 => ea_at (ev_var rfl) fun G8 e8 => ?_
    refine (?_ : tOp _ _ _ _ _ _)
    refine op_raw ⟨_, rfl, ?_⟩
    refine (eu_tup (ea_cons (ev_var rfl) ea_nil) (by simp)) G8 (Ex.refl G8) _ fun tp G9 n9 e9 h9 => ?_
    have e09 := e05.trans ((e6.trans e7).trans (e8.trans e9))
    have h7' : VarsAt G9 lg [] := ⟨[], (e8.trans e9) _ _ h7, rfl, fun j w q => nomatch q⟩
    refine cat_at (ex_t e09 ht) (st_of h9) (by simp) (by simp only [pathV, List.length_map, List.length_cons, List.length_nil]; omega) fun tt GA eA hA => ?_
    have e0A := e09.trans eA
    refine ⟨sch, lg, q, tt, m, [], en, pt ++ [i], rfl, hm.ex e0A, ho, h7'.ex eA, (hTe.tk (TupK.of ((e4.trans eT).trans (((e6.trans e7).trans (e8.trans e9)).trans eA)))), hwe, by omega, by rw [pathV, List.map_append]; exact hA, by rw [List.length_append, List.length_cons, List.length_nil]; omega, fun v GB eB hD => ?_⟩
    have e3B := (e4.trans eT).trans ((((e6.trans e7).trans (e8.trans e9)).trans eA).trans eB)
    unfold admD at hD
    dsimp only [admV, List.find?, Option.map, List.set] at hD ⊢
    cases hbad : en.bad m with
    | none =>
      rw [hbad] at hD
      cases hD
      refine s_when (b := false) (et_is (et_test (ev_op (ev_var rfl) ev_c fun H1 _ Q q => ⟨rfl, q H1 (Ex.refl H1)⟩)) (by decide)) (fun z => nomatch z) (fun _ GC eC => ⟨e3B.trans eC, fun j x hj hx => ?_, _, _, _, rfl⟩)
      rcases Nat.lt_or_ge j i with h | h
      · exact hno j x h hx
      · have : j = i := by omega
        subst this
        rw [hen] at hx
        cases hx
        exact hbad
    | some qq =>
      rw [hbad] at hD
      have hv : ∃ a, v = .ref a := by
        cases hD
        exact ⟨_, rfl⟩
      obtain ⟨a, rfl⟩ := hv
      refine s_when (b := true) (et_is (et_test (ev_op (ev_var rfl) ev_c fun H1 _ Q q => ⟨rfl, q H1 (Ex.refl H1)⟩)) (by rw [decide_eq_false (fun z => nomatch z)]; rfl)) (fun _ GC eC => ?_) (fun z => nomatch z)
      refine s_ret (ev_var rfl) fun GD eD => hQ2 _ GD (e03.trans (e3B.trans (eC.trans eD))) ?_
      rw [badL_at (k := 0) hen hno hbad]
      dsimp only
      rw [Nat.zero_add, List.append_cons]
      exact dp_ex (eC.trans eD) _ _ hD
  · intro σ G' hp
    obtain ⟨e4, hno, y5, y6, y7, rfl⟩ := hp
    dsimp only
    refine s_ret ev_c fun G5 e5 => (hQ2 _ G5 (e03.trans (e4.trans e5)) ?_ : Q .non G5)
    rw [badL_no fun j x hj => hno j x ?_ hj]
    · exact .non
    · rw [List.length_map, hP.at.1]
      exact (List.getElem?_eq_some_iff.mp hj).1

theorem sc__law_told : FnScope ["scheme", "given", "node", "found", "e"] ["scheme", "given", "node"] (defScope s__law_told) := ⟨rfl, rfl, rfl, by decide +kernel, rfl, by decide +kernel, by decide +kernel⟩
theorem ok__law_told {k : Nat} {C : Addr} (D : Df K mg "_law_told" s__law_told ["scheme", "given", "node"] f fd) (gN : mg "NotAdmitted" = some (.ref C)) (eN : PySem.W.exmOne K (.ref C) (.ref C) = some true) (eC : ExcC K C) (noC : PySem.W.findIn K (.ref C) vVal = some none)
    (ct : ClX P w K mg base k "type_of" ["model", "variables", "expression"] (spType K C)) : FnG P w K mg base CX0 (k + 1) f fd ["scheme", "given", "node"] (spToldT K) := by
  refine df_ok D sc__law_told (fun vs H Q E h => by obtain ⟨sch, l, p, m, rows, nd, rfl, _⟩ := h; rfl) (fun cdv A outer s H vs Q E hG hr h => ?_)
  obtain ⟨sch, l, p, m, rows, nd, rfl, R, hQ⟩ := h
  have ndp := sc__law_told.nd
  refine ⟨_, pss_cons (ps_try_as (i := 4) (c := .ref C) rfl rfl ndp rfl rfl ⟨rfl, by decide, .inl gN⟩ takes0
      (fun W pn xe tk _ => pss_one (ps_set (i := 3) ndp rfl (.inl rfl) (pe_clX ct hG hr tk rfl (pa_cons (pv 0) (pa_cons (pv 1) (pa_cons (pv 2) pa_nil))) (Nat.le_refl _))))
      (fun a oe cls d pn hz hf => pss_one (ps_ret (pe_xf (C := C) ⟨eC.hg, eC.hk, eC.hs, eC.hd⟩ noC hz hf (pv 4)))))
    (pss_one (ps_ret (pe_lst (pa_cons (pv 3) pa_nil)))), ?_⟩
  refine (?_ : tAsg _ _ _ _ _)
  refine (?_ : tCallS _ _ _ _ _ _)
  refine (ea_cons (ev_var rfl) (ea_cons (ev_var rfl) (ea_cons (ev_var rfl) ea_nil))) H (Ex.refl H) _ fun H1 e1 => ?_
  refine ⟨sch, l, p, m, rows, nd, rfl, R.ex e1, fun ha H2 e2 => ?_, fun ha v H2 e2 hd d H3 nd3 e3 hd3 => ?_⟩
  · refine s_retL (el_lst (ea_cons (ev_var rfl) ea_nil) (by simp)) fun q H3 n3 e3 h3 => hQ _ H3 (e1.trans (e2.trans e3)) ?_
    rw [told_none ha]
    exact .lst (sq_of h3) (.cons ty_dp .nil)
  · refine ⟨true, eN, fun _ a na => ?_, fun z => nomatch z⟩
    refine ret_raw ?_
    refine ⟨.ref a, rfl, rfl, rfl, d, _, v, rfl, hd3, rfl, ?_⟩
    refine hQ v H3 (e1.trans (e2.trans e3)) ?_
    rw [told_some ha]
    exact dp_ex e3 _ _ hd

theorem sc__law_right : FnScope ["scheme", "given", "node", "labels_here", "due", "row", "part"] ["scheme", "given", "node"] (defScope s__law_right) := ⟨rfl, rfl, rfl, by decide +kernel, rfl, by decide +kernel, by decide +kernel⟩
theorem step__law_right {d k : Nat} (D : Df K mg "_law_right" s__law_right ["scheme", "given", "node"] f fd) (hk1 : 1 ≤ k) (cad : Cl P w K mg base k "_law_admission" ["scheme", "given", "node", "path"] (spAdm K 30)) (cla : Cl P w K mg base k "_law_label_of" ["scheme", "labels_here", "node"] (PV (preLab K 30))) (ct : Cl P w K mg base k "_law_told" ["scheme", "given", "node"] (spToldT K)) (cp : Cl P w K mg base 1 "_law_parts" ["node"] spParts) (cre : mg "repr" = none)
    (cs : Cl P w K mg base k "_law_right" ["scheme", "given", "node"] (PV (preRight K d))) : FnG P w K mg base CX0 (k + 1) f fd ["scheme", "given", "node"] (PV (preRight K (d + 1))) := by
  refine df_ok D sc__law_right (pre_len1 fun vs H v h => by obtain ⟨sch, l, p, m, rows, nd, rfl, _⟩ := h; rfl) (fun cdv A outer s H vs Q E hG hr h => ?_)
  obtain ⟨v, ⟨sch, l, p, m, rows, nd, rfl, R, hs, hsm, rfl⟩, hQ⟩ := h
  have ndp := sc__law_right.nd
  have hu := hu_of hr
  have hu3 : A.units + 3 + 64 < cLine := hr.units
  refine ⟨_, (pss_cons (ps_par (i := 3) (j := 4) rfl ndp rfl rfl (by decide) rfl rfl (pa_cons pe_dnewK (pa_cons (pe_cl cad hG hr rfl (pa_cons (pv 0) (pa_cons (pv 1) (pa_cons (pv 2) (pa_cons (pe_tup pa_nil) pa_nil)))) (Nat.le_refl _)) pa_nil)) (by rfl)) (pss_cons (ps_for PassesOwn.never rfl (pi_list (pv 1)) (pg_name (i := 5) ndp rfl (.inl rfl)) (pss_one (ps_dput hu (pv 3) (pe_ix ix_tup (pv 5) pe_int (fun _ _ => rfl)) (pe_ix ix_tup (pv 5) pe_int (fun _ _ => rfl)) rfl))) (pss_cut (ps_if (pt_cmp (pc_isN (pv 4))) (pss_one (ps_set (i := 4) ndp rfl (.inl rfl) (pe_lst (pa_cons (pe_cl cla hG hr rfl (pa_cons (pv 0) (pa_cons (pv 3) (pa_cons (pv 2) pa_nil))) (Nat.le_refl _)) pa_nil)))) pss_nil) (pss_cons (ps_if (pt_cmpR op_ne (pe_callB (call_repr hG hu3) (by rfl) cre (by decide +kernel) (pa_cons (pe_cl ct hG hr rfl (pa_cons (pv 0) (pa_cons (pv 1) (pa_cons (pv 2) pa_nil))) (Nat.le_refl _)) pa_nil)) (pe_callB (call_repr hG hu3) (by rfl) cre (by decide +kernel) (pa_cons (pv 4) pa_nil)) (nomark _)) (pss_one (ps_ret pe_bl)) pss_nil) (pss_one (ps_ret (pe_cmpR (op_eqD hu3) (pe_lc (own := [("part", 6)]) (g := gName 6) rfl ndp (pi_list (pe_cl cp hG hr rfl (pa_cons (pv 2) pa_nil) hk1)) (blkOk_by (N := ["scheme", "given", "node", "labels_here", "due", "row", "part"]) (sc := defScope s__law_right) (by decide +kernel)) (fun _ _ _ _ _ => pg_name (i := 6) ndp rfl (Or.inl rfl)) (fun _ _ _ _ _ => pts_one (pt_not (pt_val (pe_cl cs hG hr rfl (pa_cons (pv 0) (pa_cons (pv 1) (pa_cons (pv 6) pa_nil))) (Nat.le_refl _))))) (fun _ _ _ _ _ => pv 6)) (pe_lst pa_nil) (nomark _)))))))), ?_⟩
  obtain ⟨ps, hl, hlen, hrow⟩ := id R.hV
  have hpl : (ps.map V.ref).length = rows.length := by rw [List.length_map, hlen]
  refine par_raw (?_ : tCons _ _ _ _ _)
  refine fun dn ndn => ?_
  have e1 : Ex H (upd H dn (.dK [])) := Ex.new ndn
  have hd1 : (upd H dn (.dK [])) dn = some (.dK (kindL [])) := upd_same
  generalize upd H dn (.dK []) = H1 at e1 hd1 ⊢
  refine (?_ : tCons _ _ _ _ _)
  refine (?_ : tCall _ _ _ _ _ _ _)
  refine (?_ : tCons _ _ _ _ _)
  refine ea_at (ev_var rfl) fun H2 e2 => ea_at (ev_var rfl) fun H3 e3 => ea_at (ev_var rfl) fun H4 e4 => ea_atU (eu_tup ea_nil (by simp)) fun ut H5 n5 e5 h5 => ?_
  have e15 := (e2.trans e3).trans (e4.trans e5)
  have R5 := R.ex (e1.trans e15)
  refine ⟨sch, l, p, ut, m, rows, nd, [], rfl, R5.hm, R5.ho, R5.hV, R5.hT, R5.hw, R5.hs, st_of h5, by have := R5.hs; simp only [List.length_nil]; omega, fun due H6 e6 hdue => ?_⟩
  refine ⟨_, _, rfl, ?_⟩
  dsimp only [List.set]
  have e16 := e15.trans e6
  have e06 := e1.trans e16
  have ndl : dn ≠ l := fun z => by rw [z, hl] at ndn; exact nomatch ndn
  have hd6 := e16 _ _ hd1
  have exH : ∀ {G : Hp}, Bu dn H6 G → Ex H G := fun bu b o q => bu b o (fun z => by rw [z, ndn] at q; exact nomatch q) (e06 _ _ q)
  have hdB : ∀ {G : Hp}, Bu dn H6 G → Dp K G due (admD m rows nd []) := fun {G} bu => by
    have : TupD (admD m rows nd []) := by
      unfold admD
      cases admV m rows with
      | some x => exact ⟨trivial, trivial, trivial⟩
      | none =>
        cases nd.bad m with
        | none => trivial
        | some q =>
          refine ⟨trivial, ?_, trivial⟩
          unfold pathD
          have : ∀ q : List Nat, TupDs (q.map fun i => PyData.int (i : Nat)) := fun q => by
            induction q with
            | nil => trivial
            | cons i q ih => exact ⟨trivial, ih⟩
          exact this _
    exact dp_buK hd6 bu _ _ this hdue
  refine q_forL (K := K) (xs := ps.map V.ref) (a := l) (ev_var rfl) (sq_of (e06 _ _ hl)) (fun i σ G => Bu dn H6 G ∧ G dn = some (.dK (kindL (rows.take i))) ∧ ∃ y5, σ = [some (.ref sch), some (.ref l), some (.ref p), some (.ref dn), some due, y5, none]) (fun G e => ⟨Bu.of e, e _ _ hd6, none, rfl⟩) (fun i σ G _ h => sq_of (exH h.1 _ _ hl)) ?_ ?_
  · intro i x σ G hx hp
    obtain ⟨bu, hD, y5, rfl⟩ := hp
    rw [List.getElem?_map] at hx
    obtain ⟨q, hq, rfl⟩ := Option.map_eq_some_iff.mp hx
    have hir : i < rows.length := by
      have := (List.getElem?_eq_some_iff.mp hq).1
      rw [hlen] at this
      exact this
    have hri : rows[i]? = some rows[i] := List.getElem?_eq_getElem hir
    obtain ⟨p2, q1, q2⟩ := hrow i rows[i] hri
    rw [hq] at q1
    cases q1
    have hnew : rows[i].name ∉ (rows.take i).map Row.name := fun hm => by
      rw [List.map_take] at hm
      obtain ⟨j, hj1, hj2⟩ := List.getElem_of_mem hm
      rw [List.length_take] at hj1
      rw [List.getElem_take] at hj2
      have := (List.getElem_inj (i := j) (j := i) (h₀ := by omega) (h₁ := by rw [List.length_map]; exact hir) R.hnd).mp (by rw [hj2, List.getElem_map])
      omega
    have htk : rows.take (i + 1) = rows.take i ++ [rows[i]] := by
      rw [List.take_add_one, hri]
      rfl
    rw [htk, ← kind_put hnew]
    have q3 := exH bu _ _ q2
    have hl6 : (kindL (rows.take i)).length < 100000 := by
      have := R.hz
      unfold kindL
      rw [List.length_map, List.length_take]
      omega
    dsimp only [gName, List.set]
    refine (ev_op (ev_var rfl) ev_c (rv_ixT (st_of q3) (atI_nat (j := 1) rfl))) G (Ex.refl G) _ fun G1 f1 => (ev_var rfl) G1 (Ex.refl G1) _ fun G2 f2 => (ev_op (ev_var rfl) ev_c (rv_ixT (st_of ((f1.trans f2) _ _ q3)) (atI_nat (j := 0) rfl))) G2 (Ex.refl G2) _ fun G3 f3 => ⟨dn, _, rfl, DPut.k (k := .inr rows[i].name) (((f1.trans f2).trans f3) _ _ hD) (sz_lt hl6), fun b o nb z => ?_, upd_same, _, rfl⟩
    rw [upd_ne nb]
    exact ((f1.trans f2).trans f3) _ _ (bu b o nb z)
  intro σ G hp
  obtain ⟨bu, hD, y5, rfl⟩ := hp
  rw [hpl, List.take_length] at hD
  have eG := exH bu
  have RG := R.ex eG
  have hdG := hdB bu
  obtain ⟨t1, t2, t3⟩ := told_sm (m := m) (nd := nd) hsm R.hs
  -- due is what is told
  refine q_cut (M := fun σ' G' => Ex G G' ∧ ∃ a, σ' = [some (.ref sch), some (.ref l), some (.ref p), some (.ref dn), some (.ref a), y5, none] ∧ Dp K G' (.ref a) (toldD m rows nd)) ?_ (fun σ' G' hp => ?_)
  · rcases adm_cases m rows nd [] with ⟨ha, ha1, ha2⟩ | ⟨ds, ha⟩
    · have hdn := dp_non (by rw [ha] at hdG; exact hdG)
      subst hdn
      have ko : KdOk m rows nd := ⟨R.hw, ha2, fun x hx => vk_some (R.hv x hx)⟩
      refine s_if (b := true) (et_is (et_isN (ev_var rfl)) rfl) (fun _ G0 f0 => ?_) (fun z => nomatch z)
      refine s_asgL (el_lst (ea_cons (ev_call (ea_cons (ev_var rfl) (ea_cons (ev_var rfl) (ea_cons (ev_var rfl) ea_nil))) (spLab (d := 30) (RG.ex f0).hm RG.ho (f0 _ _ hD) (RG.ex f0).hT ko R.hs)) ea_nil) (by simp)) fun a G1 n1 f1 h1 => ⟨f0.trans f1, a, rfl, ?_⟩
      rw [told_none ha]
      exact .lst (sq_of h1) (.cons ty_dp .nil)
    · obtain ⟨a, rfl⟩ := dp_tuple (by rw [ha] at hdG; exact hdG)
      refine s_if (b := false) (et_is (et_isN (ev_var rfl)) rfl) (fun z => nomatch z) (fun _ G0 f0 => ⟨f0, a, rfl, ?_⟩)
      rw [told_some (by rw [ha]; exact fun z => nomatch z)]
      exact dp_ex f0 _ _ hdG
  obtain ⟨f1, a, rfl, hda⟩ := hp
  have R1 := RG.ex f1
  refine q_when (b := false) (et_test (ev_pair (d := toldD m rows nd) (e := toldD m rows nd) (ev_reprD (fun G2 f2 Q2 q2 => ?_) t1 (by omega) (by omega)) (ev_repr (ev_var rfl) hda t1 (by omega) (by omega)) rfl)) (fun z => nomatch z) (fun _ G3 f3 => ?_)
  · refine (ea_cons (ev_var rfl) (ea_cons (ev_var rfl) (ea_cons (ev_var rfl) ea_nil))) G2 (Ex.refl G2) _ fun G4 f4 => ⟨sch, l, p, m, rows, nd, rfl, R1.ex (f2.trans f4), fun v G5 f5 hv => ?_⟩
    obtain ⟨b, rfl⟩ := told_ref hv
    exact q2 b G5 (f4.trans f5) hv
  have R3 := R1.ex f3
  refine ret_raw (?_ : tOp _ _ _ _ _ _)
  refine op_raw (?_ : tLc _ _ _ _ _ _ _ _)
  refine (ev_var (v := .ref p) rfl) G3 (Ex.refl G3) _ fun G4 f4 => ⟨p, nd, rfl, R3.hT.ex f4, fun lq qs G5 n5 f5 h5 hP => ?_⟩
  obtain ⟨hPl, hPa⟩ := hP.at
  have R5 := R3.ex (f4.trans f5)
  have h33 : nd.parts.length ≤ 3 := by cases nd <;> simp [Nd.parts]
  refine ⟨lq, rfl, ⟨_, sq_of h5⟩, fun Dl hDl => ?_⟩
  refine lc_it (n := (qs.map V.ref).length) walk_list (Cw G5 (fun _ => false) (fun _ => .non) Dl) ⟨hDl, Ex.new hDl, upd_same⟩ (fun i G _ p => ex_l p.2.1 (sq_of h5)) (fun i x G6 G7 hi pc y => ?_) (fun G6 pc => ?_)
  · obtain ⟨rfl, hc⟩ := y
    rw [List.length_map] at hi
    rw [List.getElem?_map] at hc
    obtain ⟨q, hq, rfl⟩ := Option.map_eq_some_iff.mp hc
    obtain ⟨en, hen, hTe⟩ := hPa i q hq
    have hme := List.mem_of_getElem? hen
    have hsz := (parts_wf R.hw en hme).2
    refine ⟨rfl, ?_⟩
    exact cw_turn pc (by omega) (et_is (et_not (et_B (ev_call (ea_cons (ev_var rfl) (ea_cons (ev_var rfl) (ea_cons (ev_var rfl) ea_nil))) (spRight (d := d) (R5.part hme hTe) (by omega) hsm)))) rfl) (fun z => nomatch z)
  · obtain ⟨_, f6, h6⟩ := pc
    rw [given_none] at h6
    refine (?_ : tLst _ _ _ _)
    refine lst_raw (?_ : tNil _ _ _)
    refine (⟨by show 0 ≤ sizeLine; decide, fun te nte => ?_⟩ : _ ∧ _)
    have f7 : Ex G6 (upd G6 te (.lst [])) := Ex.new nte
    have hte : (upd G6 te (.lst [])) te = some (.lst []) := upd_same
    generalize upd G6 te (.lst []) = G7 at f7 hte ⊢
    have ce : PyData.eqv (.list []) (.list []) = true := by decide +kernel
    have cs2 : SeqAt.shaped (.list []) = true := by decide +kernel
    refine ⟨.list [], .list [], .lst (sq_of (f7 _ _ h6)) .nil, .lst (sq_of hte) .nil, cs2, cs2, ?_⟩
    rw [ce]
    exact hQ G7 (eG.trans (f1.trans (f3.trans ((f4.trans f5).trans (f6.trans f7)))))

theorem sc_law : FnScope ["script", "rng", "lap", "scheme", "given", "row", "node", "kept"] ["script"] (defScope s_law) := ⟨rfl, rfl, rfl, by decide +kernel, rfl, by decide +kernel, by decide +kernel⟩
theorem ok_law {kk : Nat} {C : Addr} (D : Df K mg "law" s_law ["script"] f fd) (hk : 6 ≤ kk)
    (cg : Cl P w K mg base 1 "_law_rng" ["script"] (spRng K)) (cd : Cl P w K mg base 1 "_law_draw" ["rng", "limit"] spDraw) (cc : Cl P w K mg base 2 "_law_scheme" ["rng", "low", "top"] (spScheme K)) (cgi : Cl P w K mg base 2 "_law_given" ["rng", "many", "top"] spGiven)
    (cw : Cl P w K mg base kk "_law_whole" ["rng", "given", "many", "span", "top"] spWhole) (ch : Cl P w K mg base 3 "_law_holds" ["scheme", "label", "far"] (PV (preMKI K fun m k i => .bl (decide (m.low k ≤ i ∧ i ≤ m.high k)))))
    (cri : Cl P w K mg base kk "_law_right" ["scheme", "given", "node"] (PV (preRight K 30))) (ct : CkX P w K mg base kk "type_of" ["model", "variables", "expression"] id (spType K C))
    (cra : mg "range" = none) (cmi : mg "min" = none) (cle : mg "len" = none) (cre : mg "repr" = none) :
    FnG P w K mg base CX0 (kk + 1) f fd ["script"] (spLaw K) := by
  refine df_ok D sc_law (fun vs H Q E h => by obtain ⟨a, ns, rfl, _⟩ := h; rfl) (fun cdv A outer s H vs Q E hG hr h => ?_)
  obtain ⟨a, ns, rfl, hS, hlen, hQ⟩ := h
  have nd := sc_law.nd
  have hu : A.units + 3 + 64 < cLine := hr.units
  have h1k : 1 ≤ kk := by omega
  have h2k : 2 ≤ kk := by omega
  have h3k : 3 ≤ kk := by omega
  refine ⟨_, (pss_cons (ps_set (i := 1) nd rfl (.inl rfl) (pe_cl cg hG hr rfl (pa_cons (pv 0) pa_nil) h1k)) (pss_cons (ps_for PassesOwn.never rfl (pi_range1 (by rfl) cra (pa_cons (pe_op op_add pe_int (pe_callB (call_min2 rfl) (by rfl) cmi (by decide +kernel) (pa_cons pe_int (pa_cons (pe_callB call_len_seq (by rfl) cle PySem.boot_len (pa_cons (pv 0) pa_nil)) pa_nil)))) pa_nil)) (pg_name (i := 2) nd rfl (.inl rfl))
        (pss_cons (ps_set (i := 3) nd rfl (.inr rfl) (pe_cl cc hG hr rfl (pa_cons (pv 1) (pa_cons (pe_ix ix_list (pe_lst (pa_cons pe_int (pa_cons pe_int pa_nil))) (pe_cl cd hG hr rfl (pa_cons (pv 1) (pa_cons pe_int pa_nil)) h1k) (fun _ _ => rfl)) (pa_cons (pe_ix ix_list (pe_lst (pa_cons pe_int (pa_cons pe_int (pa_cons pe_int pa_nil)))) (pe_cl cd hG hr rfl (pa_cons (pv 1) (pa_cons pe_int pa_nil)) h1k) (fun _ _ => rfl)) pa_nil))) h2k)) (pss_cons (ps_set (i := 4) nd rfl (.inl rfl) (pe_cl cgi hG hr rfl (pa_cons (pv 1) (pa_cons pe_int (pa_cons (pe_ix ix_list (pe_lst (pa_cons pe_int (pa_cons pe_int (pa_cons pe_int pa_nil)))) (pe_cl cd hG hr rfl (pa_cons (pv 1) (pa_cons pe_int pa_nil)) h1k) (fun _ _ => rfl)) pa_nil))) h2k)) (pss_cut (ps_if (pt_cmpR op_gt (pe_cl cd hG hr rfl (pa_cons (pv 1) (pa_cons pe_int pa_nil)) h1k) pe_int (nomark _)) (pss_one (ps_setLc (i := 4) (own := [("row", 5)]) (g := gName 5) rfl nd rfl rfl (sw_true rfl rfl rfl (by decide +kernel)) (pi_list (pv 4)) (blkOk_by (N := ["script", "rng", "lap", "scheme", "given", "row", "node", "kept"]) (sc := defScope s_law) (by decide +kernel)) (fun _ _ _ _ _ => pg_name (i := 5) nd rfl (Or.inl rfl)) (fun _ _ _ _ _ => pts_one (PW.pt (pw_and (pt_val (pe_cl ch hG hr rfl (pa_cons (pv 3) (pa_cons (pe_ix (ix_tup : IxR _ (rIxT K)) (pv 5) pe_int (fun _ _ => rfl)) (pa_cons (pe_ix (ix_tup : IxR _ (rIxT K)) (pv 5) pe_int (fun _ _ => rfl)) pa_nil))) h3k)) (pw_and1 (pt_val (pe_cl ch hG hr rfl (pa_cons (pv 3) (pa_cons (pe_ix (ix_tup : IxR _ (rIxT K)) (pv 5) pe_int (fun _ _ => rfl)) (pa_cons (pe_ix (ix_tup : IxR _ (rIxT K)) (pv 5) pe_int (fun _ _ => rfl)) pa_nil))) h3k)))))) (fun _ _ _ _ _ => pv 5))) pss_nil) (pss_cons (ps_set (i := 6) nd rfl (.inl rfl) (pe_cl cw hG hr rfl (pa_cons (pv 1) (pa_cons (pv 4) (pa_cons pe_int (pa_cons (pe_ix ix_list (pe_lst (pa_cons pe_int (pa_cons pe_int (pa_cons pe_int pa_nil)))) (pe_cl cd hG hr rfl (pa_cons (pv 1) (pa_cons pe_int pa_nil)) h1k) (fun _ _ => rfl)) (pa_cons (pe_ix ix_list (pe_lst (pa_cons pe_int (pa_cons pe_int (pa_cons (pe_op op_powW pe_int pe_int) pa_nil)))) (pe_cl cd hG hr rfl (pa_cons (pv 1) (pa_cons pe_int pa_nil)) h1k) (fun _ _ => rfl)) pa_nil))))) (Nat.le_refl _))) (pss_cons (ps_set (i := 7) nd rfl (.inl rfl) (pe_callB (call_repr hG hu) (by rfl) cre (by decide +kernel) (pa_cons (pe_lst (pa_cons (pv 3) (pa_cons (pv 4) (pa_cons (pv 6) pa_nil)))) pa_nil))) (pss_one (ps_if (PW.pt (pw_or (pt_not (pt_val (pe_cl cri hG hr rfl (pa_cons (pv 3) (pa_cons (pv 4) (pa_cons (pv 6) pa_nil))) (Nat.le_refl _)))) (pw_or1 (pt_cmpR op_ne (pe_callB (call_repr hG hu) (by rfl) cre (by decide +kernel) (pa_cons (pe_lst (pa_cons (pv 3) (pa_cons (pv 4) (pa_cons (pv 6) pa_nil)))) pa_nil)) (pv 7) (nomark _))))) (pss_one (ps_ret pe_bl)) pss_nil)))))))) (pss_cons (ps_asg (pe_tup (pa_cons (pe_tup (pa_cons (pe_tup (pa_cons pe_int (pa_cons pe_int (pa_cons pe_int (pa_cons pe_int (pa_cons pe_int pa_nil)))))) (pa_cons pe_str pa_nil))) (pa_cons (pe_tup (pa_cons pe_str (pa_cons (pe_tup (pa_cons pe_str (pa_cons pe_int (pa_cons pe_str pa_nil)))) (pa_cons (pe_tup (pa_cons pe_str (pa_cons pe_int (pa_cons pe_str pa_nil)))) pa_nil)))) pa_nil))) (pg_tup rfl (pgs_cons (pg_name (i := 3) nd rfl (.inr rfl)) (pgs_cons (pg_name (i := 6) nd rfl (.inl rfl)) pgs_nil)))) (pss_one (ps_ret (pe_cmpR op_eq (pe_ckX ct hG hr takes0 rfl (pk_cons (pv 3) (pk_cons (pe_lst pa_nil) (pk_cons (pv 6) pk_nil))) (Nat.le_refl _)) pe_str (nomark _))))))), ?_⟩
  have gn : ∀ {H' : Hp} {r : Addr} {n : Nat} {q : Addr}, Rng H' r n → H' q = none → q ≠ r := fun g h => by
    obtain ⟨d, s2, c, q, _⟩ := g
    exact fun z => by rw [z, q] at h; exact nomatch h
  refine ⟨_, rfl, a, ns, rfl, hS, hlen, fun r H1 n1 e1 g1 => ?_⟩
  dsimp only [gName, List.set]
  have s1 : SqL K H1 a (ns.map V.int) := ex_l e1 hS
  refine q_forR1 (n := 6 + (if (ns.length : Int) < 16 then (ns.length : Int) else 16)) (ea_cons (ev_op ev_c (ev_cb (vs := [.int 16, .int ((ns.map V.int).length : Nat)]) (ea_cons ev_c (ea_cons (ev_cb (ea_cons (ev_var rfl) ea_nil) fun H2 e2 Q1 q1 => ⟨a, _, rfl, .inl (ex_l e2 s1), q1 H2 (Ex.refl H2)⟩) ea_nil))
      fun H2 e2 Q1 q1 => ⟨_, _, rfl, by rw [List.length_map]; exact q1 H2 (Ex.refl H2)⟩) rv_I0) ea_nil) (by split <;> omega)
    (fun i σ H2 => Rng H2 r (1000 * i) ∧ ∃ (y2 y3 y4 y6 y7 : Option V), σ = [some (.ref a), some (.ref r), y2, y3, y4, none, y6, y7]) ?_ ?_ ?_
  · exact fun H2 e2 => ⟨g1.ex e2, none, none, none, none, none, rfl⟩
  · intro i σ H2 hi hp
    obtain ⟨g2, y2, y3, y4, y6, y7, rfl⟩ := hp
    have hi28 : i < 28 := by
      split at hi <;> omega
    dsimp only [gName, List.set]
    -- scheme
    refine q_raw (ea_at (ev_var rfl) fun H3 e3 => ?_)
    refine pick2 (n := 1000 * i) (g2.ex e3) (by omega) rfl fun H4 x b4 g4 hx => ?_
    refine pick3 (n := 1000 * i + 1) g4 (by omega) rfl fun H5 y b5 g5 hy => ?_
    refine ⟨r, x, y, 1000 * i + 2, rfl, by omega, by omega, by omega, by omega, g5, fun p H6 m b6 g6 hm ho _ _ => ?_⟩
    dsimp only [List.set]
    -- given
    refine q_raw (ea_at (ev_var rfl) fun H7 e7 => ea_at ev_c fun H8 e8 => ?_)
    refine pick3 (n := 1000 * i + 22) (g6.ex (e7.trans e8)) (by omega) rfl fun H9 top b9 g9 htp => ?_
    refine ⟨r, 8, top, 1000 * i + 23, rfl, by omega, by omega, by omega, by omega, g9, fun l rows H11 b11 g11 nl nlr hV hN hF => ?_⟩
    dsimp only [List.set]
    have b611 : Bu r H6 H11 := (Bu.of (e7.trans e8)).trans (b9.trans b11)
    have hm11 := hm.bu b611 g6
    have hN8 : rows.map Row.name = names8 := hN
    have hrl : rows.length ≤ 8 := by
      have := congrArg List.length hN8
      rw [List.length_map] at this
      have : names8.length = 8 := rfl
      omega
    have n8 : ∀ x ∈ names8, PyData.strOk x = true ∧ nameOk x = true ∧ smStr x = true := by decide +kernel
    have hin : ∀ w ∈ rows, w.name ∈ names8 := fun w hw => by
      have : w.name ∈ rows.map Row.name := List.mem_map_of_mem hw
      rw [hN8] at this
      exact this
    have hnd : (rows.map Row.name).Nodup := by
      rw [hN8]
      decide +kernel
    -- given, perhaps chosen
    refine q_cut (M := fun σ' H12 => ∃ l2 rows2, Bu r H11 H12 ∧ Rng H12 r (1000 * i + 64) ∧ l2 ≠ r ∧ VarsAt H12 l2 rows2 ∧ (rows2.map Row.name).Nodup ∧ (∀ w ∈ rows2, w ∈ rows) ∧ rows2.length ≤ 8 ∧ σ' = [some (.ref a), some (.ref r), some (.int (i : Nat)), some (.ref p), some (.ref l2), none, y6, y7]) ?_ (fun σ' H12 hp => ?_)
    · refine if_raw (test_raw (op_raw (?_ : tCall _ _ _ _ _ _ _)))
      refine draw_at (l := 3) (n := 1000 * i + 63) (ea_cons (ev_var rfl) (ea_cons ev_c ea_nil)) (by decide) (log_small (by decide)) (by omega) g11 fun H12 v b12 g12 v0 v1 => ⟨_, _, rfl, rfl, _, rfl, ?_⟩
      have hV12 := hV.bu nlr g11 b12
      have hm12 := hm11.bu b12 g11
      by_cases hv : v > 0
      · rw [if_pos (decide_eq_true hv)]
        obtain ⟨ps, hl, hlen2, hrow⟩ := id hV12
        have hpl : (ps.map V.ref).length = rows.length := by rw [List.length_map, hlen2]
        refine s_asgL (el_lcLf (K := K) (xs := ps.map V.ref) (fun j => decide (m.low (rows.getD j row0).kind ≤ (rows.getD j row0).low ∧ (rows.getD j row0).low ≤ m.high (rows.getD j row0).kind) && decide (m.low (rows.getD j row0).kind ≤ (rows.getD j row0).high ∧ (rows.getD j row0).high ≤ m.high (rows.getD j row0).kind)) (fun j => V.ref (ps.getD j 0)) (ev_var rfl) (sq_of hl) (by omega) (fun y => rfl) (fun j y G1 f1 hc => ?_) (fun j y G1 f1 hc _ => ?_)) fun l2 H13 n13 e13 h13 => ?_
        · rw [List.getElem?_map] at hc
          obtain ⟨q, hq, rfl⟩ := Option.map_eq_some_iff.mp hc
          have hj : j < rows.length := by
            have := (List.getElem?_eq_some_iff.mp hq).1
            omega
          have hrj : rows[j]? = some rows[j] := List.getElem?_eq_getElem hj
          obtain ⟨p2, q1, q2⟩ := hrow j rows[j] hrj
          rw [hq] at q1
          cases q1
          have hgd : rows.getD j row0 = rows[j] := by rw [List.getD_eq_getElem?_getD, hrj]; rfl
          rw [hgd]
          have it : ∀ {G' : Hp} {c : Nat} {v : V}, Ex G1 G' → rows[j].vs[c]? = some v → Ev (tOp (rIxT K) (tVar 5) (tC (.int (c : Nat)))) [some (.ref a), some (.ref r), some (.int (i : Nat)), some (.ref p), some (.ref l), some (.ref q), y6, y7] G' v := fun f2 h => ev_op (ev_var rfl) ev_c (rv_ixT (st_of ((f1.trans f2) _ _ q2)) (atI_nat h))
          exact et_and (et_B (ev_call (ea_cons (ev_var rfl) (ea_cons (it (c := 1) (Ex.refl G1) rfl) (ea_cons (it (c := 2) (Ex.refl G1) rfl) ea_nil))) (spMKI (hm12.ex f1) ho))) fun _ => et_B (ev_call (ea_cons (ev_var rfl) (ea_cons (it (c := 1) (Ex.refl G1) rfl) (ea_cons (it (c := 3) (Ex.refl G1) rfl) ea_nil))) (spMKI (hm12.ex f1) ho))
        · rw [List.getElem?_map] at hc
          obtain ⟨q, hq, rfl⟩ := Option.map_eq_some_iff.mp hc
          refine ev_is (ev_var rfl) ?_
          rw [List.getD_eq_getElem?_getD, hq]
          rfl
        · rw [hpl] at h13
          obtain ⟨rows2, z1, z2, z3, z4⟩ := vars_pick hlen2 (fun j w hj => by obtain ⟨p2, a1, a2⟩ := hrow j w hj; exact ⟨p2, a1, e13 _ _ a2⟩) h13
          exact ⟨l2, rows2, b12.trans (Bu.of e13), g12.ex e13, gn g12 n13, z1, z2.nodup hnd, z3, by omega, rfl⟩
      · rw [if_neg (by rw [decide_eq_false hv]; decide)]
        exact ⟨l, rows, b12, g12, nlr, hV12, hnd, fun w hw => hw, hrl, rfl⟩
    obtain ⟨l2, rows2, b12, g12, nl2, hV12, hnd2, hsub, hrl2, rfl⟩ := hp
    have hm12 := hm11.bu b12 g11
    have hin2 : ∀ w ∈ rows2, w.name ∈ names8 := fun w hw => hin w (hsub w hw)
    -- node
    refine q_raw (ea_at (ev_var rfl) fun H13 e13 => ea_at (ev_var rfl) fun H14 e14 => ea_at ev_c fun H15 e15 => ?_)
    have g15 := g12.ex ((e13.trans e14).trans e15)
    refine pick3 (n := 1000 * i + 64) g15 (by omega) rfl fun H16 sp b16 g16 hsp => ?_
    obtain ⟨span, rfl, sp1, sp2⟩ : ∃ q : Nat, sp = (q : Int) ∧ 1 ≤ q ∧ q ≤ 24 := ⟨sp.toNat, by omega, by omega, by omega⟩
    refine (?_ : tCons _ _ _ _ _)
    refine (?_ : tOp _ _ _ _ _ _)
    refine op_raw ((el_lst (vs := [.int 7, .int 300, .int 1000000000000]) (ea_cons ev_c (ea_cons ev_c (ea_cons (ev_is (ev_op ev_c ev_c (rv_I ⟨by decide, by decide, by decide⟩)) (by decide +kernel)) ea_nil))) (by decide)) H16 (Ex.refl H16) _ fun t H17 nt e17 ht => ?_)
    have ntr := gn g16 nt
    refine draw_at (l := 3) (n := 1000 * i + 65) (ea_cons (ev_var rfl) (ea_cons ev_c ea_nil)) (by decide) (log_small (by decide)) (by omega) (g16.ex e17) fun H18 tp b18 g18 tp0 tp1 => ?_
    obtain ⟨top2, htop, top0, top1⟩ : ∃ top : Int, atI [V.int 7, V.int 300, V.int 1000000000000] tp = some (.int top) ∧ 0 ≤ top ∧ top < 2 ^ 100 := by
      have hv : tp = 0 ∨ tp = 1 ∨ tp = 2 := by omega
      rcases hv with rfl | rfl | rfl
      · exact ⟨7, by decide +kernel, by decide, by decide⟩
      · exact ⟨300, by decide +kernel, by decide, by decide⟩
      · exact ⟨1000000000000, by decide +kernel, by decide, by decide⟩
    refine ⟨t, _, tp, _, rfl, rfl, sq_of (b18 _ _ ntr ht), htop, ?_⟩
    have b1218 : Bu r H12 H18 := (Bu.of ((e13.trans e14).trans e15)).trans (b16.trans ((Bu.of e17).trans b18))
    have hV18 := hV12.bu nl2 g12 b1218
    refine ⟨r, l2, 6, span, top2, 1000 * i + 66, rows2, rfl, by decide, by decide, sp1, sp2, top0, by omega, by omega, g18, hV18, hrl2, fun w hw => (n8 _ (hin2 w hw)).1, fun pn node H20 b20 g20 tr wf1 sz1 hpm => ?_⟩
    dsimp only [List.set]
    obtain ⟨ys, hpm⟩ := hpm
    have hnd3 := (hpm.nodup_iff).mpr hnd2
    have hvn := (List.nodup_append.mp hnd3).1
    have hvm : ∀ x ∈ node.vars, x ∈ rows2.map Row.name := fun x hx => hpm.mem_iff.mp (List.mem_append_left _ hx)
    have hv8 : ∀ x ∈ node.vars, x ∈ names8 := fun x hx => by
      obtain ⟨w, hw, e⟩ := List.mem_map.mp (hvm x hx)
      rw [← e]
      exact hin2 w hw
    have b1220 : Bu r H12 H20 := b1218.trans b20
    have hm20 := hm12.bu b1220 g12
    have hV20 := hV12.bu nl2 g12 b1220
    have g20' : Rng H20 r (1000 * (i + 1)) := g20.le (by omega)
    have R20 : Right K H20 p l2 pn m rows2 node := ⟨hm20, ho, hV20, by omega, fun w hw => (n8 _ (hin2 w hw)).2.1, hnd2, fun w hw => (hF w (hsub w hw)).1, tr, wf1, by omega, hvm, hvn⟩
    have dAll : ∀ G : Hp, Ex H20 G → DpAll K G [.ref p, .ref l2, .ref pn] [.tuple [.tuple (m.ns.map PyData.int), .str (plS m.u)], .list (rows2.map Row.dat), node.dat] := fun G e => .cons (hm20.ex e).dp (.cons (hV20.ex e).dp (.cons (tr.ex e).dp .nil))
    have sAll : SmAll [.tuple [.tuple (m.ns.map PyData.int), .str (plS m.u)], .list (rows2.map Row.dat), node.dat] := ⟨Md.sm ho, rows_sm (fun w hw => (n8 _ (hin2 w hw)).2.2) (fun w hw => hF w (hsub w hw)), nd_sm wf1 (fun x hx => (n8 x (hv8 x hx)).2.2), trivial⟩
    have zAll : szD (.list [.tuple [.tuple (m.ns.map PyData.int), .str (plS m.u)], .list (rows2.map Row.dat), node.dat]) ≤ 800 := by
      have h1 := rows_sz rows2
      have h2 := nd_sz node
      have h3 : szAll (m.ns.map PyData.int) = 5 := rfl
      simp only [szD, szAll, h1, h3]
      omega
    have pAll : (PyData.list [.tuple [.tuple (m.ns.map PyData.int), .str (plS m.u)], .list (rows2.map Row.dat), node.dat]).depth ≤ 60 := by
      have h1 := rows_dep rows2
      have h2 := nd_depth node
      have h3 : PyData.depthAll (m.ns.map PyData.int) = 0 := rfl
      simp only [PyData.depth, PyData.depthAll, h3]
      omega
    generalize [PyData.tuple [.tuple (m.ns.map PyData.int), .str (plS m.u)], .list (rows2.map Row.dat), node.dat] = dsK at dAll sAll zAll pAll
    refine q_asg (v := .str (PyData.list dsK).shown) (ev_reprL (el_lst (ea_cons (ev_var rfl) (ea_cons (ev_var rfl) (ea_cons (ev_var rfl) ea_nil))) (by simp)) (fun G e => dAll G e) sAll zAll pAll) fun H21 e21 => ?_
    dsimp only [List.set]
    refine s_when (b := false) (et_or (a := false) (b := false) (et_is (et_not (et_B (ev_call (ea_cons (ev_var rfl) (ea_cons (ev_var rfl) (ea_cons (ev_var rfl) ea_nil))) (spRight (d := 30) (R20.ex e21) R20.hs (fun w hw => (n8 _ (hin2 w hw)).2.2))))) rfl)
      (fun _ => et_test (ev_pair (d := .list dsK) (e := .list dsK) (ev_reprL (el_lst (ea_cons (ev_var rfl) (ea_cons (ev_var rfl) (ea_cons (ev_var rfl) ea_nil))) (by simp)) (fun G e => dAll G (e21.trans e)) sAll zAll pAll) (ev_var rfl) rfl))) (fun z => nomatch z) (fun _ H32 e32 => ⟨(g20'.ex e21).ex e32, _, _, _, _, _, rfl⟩)
  · intro σ H2 hp
    obtain ⟨g2, y2, y3, y4, y6, y7, rfl⟩ := hp
    refine asg_raw (tup_raw (?_ : tCons _ _ _ _ _))
    refine (?_ : tTup _ _ _ _)
    refine tup_raw (ea_atU (eu_tup (vs := [.int 8, .int 16, .int 16, .int 16, .int 32]) (ea_cons ev_c (ea_cons ev_c (ea_cons ev_c (ea_cons ev_c (ea_cons ev_c ea_nil))))) (by decide)) fun q H3 n3 e3 h3 => ?_)
    refine ea_at ev_c fun H4 e4 => ⟨by show 2 ≤ sizeLine; decide, fun p n5 => ?_⟩
    have hm : AtM K (upd H4 p (.tup [.ref q, .str "s"])) p ⟨8, 16, 16, 16, 32, false⟩ := ⟨q, st_of upd_same, st_of (Ex.new n5 _ _ (e4 _ _ h3))⟩
    have ho : Md.Ok ⟨8, 16, 16, 16, 32, false⟩ := ⟨by decide, by decide, by decide, by decide, by decide, by decide⟩
    have e5 : Ex H4 (upd H4 p (.tup [.ref q, .str "s"])) := Ex.new n5
    generalize upd H4 p (.tup [.ref q, .str "s"]) = H5 at hm e5 ⊢
    refine (?_ : tCons _ _ _ _ _)
    refine (?_ : tTup _ _ _ _)
    refine tup_raw (ea_at ev_c fun H6 e6 => ea_atU (eu_tup (ea_cons ev_c (ea_cons ev_c (ea_cons ev_c ea_nil))) (by simp)) fun t1 H7 n7 e7 h7 => ea_atU (eu_tup (ea_cons ev_c (ea_cons ev_c (ea_cons ev_c ea_nil))) (by simp)) fun t2 H8 n8 e8 h8 => ⟨by show 3 ≤ sizeLine; decide, fun tn ntn => ?_⟩)
    have e9 : Ex H8 (upd H8 tn (.tup [.str "add", .ref t1, .ref t2])) := Ex.new ntn
    have htn : (upd H8 tn (.tup [.str "add", .ref t1, .ref t2])) tn = some (.tup [.str "add", .ref t1, .ref t2]) := upd_same
    generalize upd H8 tn (.tup [.str "add", .ref t1, .ref t2]) = H9 at e9 htn ⊢
    refine ⟨by show 2 ≤ sizeLine; decide, fun tb ntb => ?_⟩
    have e10 : Ex H9 (upd H9 tb (.tup [.ref p, .ref tn])) := Ex.new ntb
    have htb : (upd H9 tb (.tup [.ref p, .ref tn])) tb = some (.tup [.ref p, .ref tn]) := upd_same
    generalize upd H9 tb (.tup [.ref p, .ref tn]) = H10 at e10 htb ⊢
    refine ⟨tb, _, rfl, st_of htb, rfl, _, _, rfl, _, _, rfl, rfl, ?_⟩
    dsimp only [List.set]
    have e510 := (((e6.trans e7).trans e8).trans e9).trans e10
    have tr10 : TreeAt H10 tn (.bin .add (.lit 40000 "u") (.lit 1 "l")) := ⟨t1, t2, e10 _ _ htn, (e8.trans (e9.trans e10)) _ _ h7, (e9.trans e10) _ _ h8⟩
    refine ret_raw (?_ : tOp _ _ _ _ _ _)
    refine op_raw (?_ : tKwS _ _ _ _ _ _ _ _)
    refine ea_at (ev_var rfl) fun H11 e11 => ea_atL (el_lst ea_nil (by simp)) fun lv H12 n12 e12 h12 => ea_at (ev_var rfl) fun H13 e13 => ⟨rfl, ?_⟩
    have e1013 := (e11.trans e12).trans e13
    have wfN : (Nd.bin .add (.lit 40000 "u") (.lit 1 "l")).wf := ⟨rfl, rfl, ⟨by decide, by decide, by decide⟩, ⟨by decide, by decide, by decide⟩⟩
    have RN : Right K H13 p lv tn ⟨8, 16, 16, 16, 32, false⟩ [] (.bin .add (.lit 40000 "u") (.lit 1 "l")) := ⟨(hm.ex e510).ex e1013, ho, ⟨[], e13 _ _ h12, rfl, fun j w hj => nomatch hj⟩, by decide, (fun w hw => nomatch hw), List.nodup_nil, (fun w hw => nomatch hw), tr10.ex e1013, wfN, by decide, (fun y hy => nomatch hy), List.nodup_nil⟩
    have ad : admD ⟨8, 16, 16, 16, 32, false⟩ [] (.bin .add (.lit 40000 "u") (.lit 1 "l")) [] = .none := by
      have h2 : (Nd.bin .add (.lit 40000 "u") (.lit 1 "l")).bad ⟨8, 16, 16, 16, 32, false⟩ = none := by decide +kernel
      have h1 : admV ⟨8, 16, 16, 16, 32, false⟩ [] = none := rfl
      unfold admD
      rw [h1, h2]
    refine ⟨p, lv, tn, ⟨8, 16, 16, 16, 32, false⟩, [], .bin .add (.lit 40000 "u") (.lit 1 "l"), rfl, RN, fun _ H14 e14 => ?_, fun z => absurd ad z⟩
    have ty : tyV ⟨8, 16, 16, 16, 32, false⟩ [] (.bin .add (.lit 40000 "u") (.lit 1 "l")) = .str "ulong" := by
      have h3 : (Nd.bin .add (.lit 40000 "u") (.lit 1 "l")).own ⟨8, 16, 16, 16, 32, false⟩ (vkOf []) = some .ul := by decide +kernel
      exact tyV_E (k := .ul) rfl h3
    rw [ty]
    refine ev_c H14 (Ex.refl H14) _ fun H15 e15 => ?_
    have hd : decide (V.str "ulong" = V.str "ulong") = true := decide_eq_true rfl
    refine (rv_eq (x := .str "ulong") (y := .str "ulong") (by rfl)) H15 (Ex.refl H15) _ fun H16 e16 => ?_
    rw [hd]
    exact hQ H16

end
theorem df_mk {K : PySem.W.Frag} {h : Heap} {mg : Str → Option Value} {x : Str} {st : Stmt} {ps : List Str} {f : Addr} {oc : Value} {od an : Option Addr} {sl : Array (Option Value)} {kV dc pm cd ct : Value} (X : K.In h) (G : h.Ns mainGlobals mg)
    (a : PySem.W.nsIn K mainGlobals x = some (some (.ref f))) (l : K.lookup f = some ⟨oc, od, .func (PySem.W.fnOf x x (defArgs st) (defBody st) (defScope st) .none kV dc pm an cd ct), sl⟩) (c : PySem.W.codeIn K cd x = true) (k : PySem.W.keepIn K (.ref f) = true)
    (hb : ∀ (kV doc pm : Value) (an : Option Addr) (cdv ct : Value) (us : List Value), us.length = ps.length → bindArgs (PySem.W.fnOf x x (defArgs st) (defBody st) (defScope st) .none kV doc pm an cdv ct) ⟨us, []⟩ = pure (ps.zip us)) :
    Df K mg x st ps f (PySem.W.fnOf x x (defArgs st) (defBody st) (defScope st) .none kV dc pm an cd ct) :=
  ⟨fun_mk l c k, PySem.W.mg_of X G a, (fun_mk l c k).binds hb⟩
theorem dd_mk {K : PySem.W.Frag} {h : Heap} {mg : Str → Option Value} {x : Str} {st : Stmt} {ps : List Str} {n : Nat} {f T : Addr} {oc tc : Value} {od an td : Option Addr} {sl tsl : Array (Option Value)} {kV dc pm cd ct : Value} {e0 : Addr} {tn : Nat} (X : K.In h) (G : h.Ns mainGlobals mg)
    (a : PySem.W.nsIn K mainGlobals x = some (some (.ref f))) (l : K.lookup f = some ⟨oc, od, .func (PySem.W.fnOf x x (defArgs st) (defBody st) (defScope st) (.ref T) kV dc pm an cd ct), sl⟩) (c : PySem.W.codeIn K cd x = true) (k : PySem.W.keepIn K (.ref f) = true)
    (d : K.lookup T = some ⟨tc, td, .seq #[.ref e0] tn, tsl⟩) (hn : n + 1 = ps.length)
    (h2 : ∀ (T : Addr) (kV doc pm : Value) (an : Option Addr) (cdv ct : Value) (us its : List Value), us.length = n + 1 → its.length = 1 →
      ∃ k, bindArgs (PySem.W.fnOf x x (defArgs st) (defBody st) (defScope st) (.ref T) kV doc pm an cdv ct) ⟨us, []⟩ = seqItems? (.ref T) >>= k ∧ k (some its.toArray) = pure (ps.zip (us ++ its.drop 1)))
    (h1 : ∀ (T : Addr) (kV doc pm : Value) (an : Option Addr) (cdv ct : Value) (us its : List Value), us.length = n → its.length = 1 →
      ∃ k, bindArgs (PySem.W.fnOf x x (defArgs st) (defBody st) (defScope st) (.ref T) kV doc pm an cdv ct) ⟨us, []⟩ = seqItems? (.ref T) >>= k ∧ k (some its.toArray) = pure (ps.zip (us ++ its.drop 0))) :
    Dd K mg x st ps [.ref e0] f (PySem.W.fnOf x x (defArgs st) (defBody st) (defScope st) (.ref T) kV dc pm an cd ct) := by
  have F : FunD K x x (defArgs st) (defBody st) (defScope st) [.ref e0] [] f (PySem.W.fnOf x x (defArgs st) (defBody st) (defScope st) (.ref T) kV dc pm an cd ct) :=
    ⟨⟨oc, od, .ref T, kV, dc, pm, an, cd, ct, sl, rfl, l, c, .inr ⟨(fun z => nomatch z), T, _, [.ref e0], tn, rfl, d, rfl, .cons rfl .nil⟩, .inl rfl⟩, k⟩
  refine ⟨F, PySem.W.mg_of X G a, ?_, F.binds1 n 0 (fun z => nomatch z) hn h1⟩
  obtain ⟨ds, r, b⟩ := F.binds1 (ps := ps) (n + 1) 1 (fun z => nomatch z) hn h2
  cases r
  exact b
theorem sqt_mk {K : PySem.W.Frag} {q : Addr} {od : Option Addr} {its : Array Value} {m : Nat} {sl : Array (Option Value)} {xs : List V} (l : K.lookup q = some ⟨.type "tuple", od, .seq its m, sl⟩) (v : Vals xs its.toList) (z : xs.length ≤ 1000) : ∀ H, SqT K H q xs := fun H => .inr ⟨_, its, m, l, rfl, rfl, by
    have e := v.length
    have s := sizeLine_eq
    have e2 : its.toList.length = its.size := Array.length_toList
    omega, v⟩
theorem ct_mk {K : PySem.W.Frag} {h : Heap} {mg : Str → Option Value} {x : Str} {xs : List V} {q : Addr} {od : Option Addr} {its : Array Value} {m : Nat} {sl : Array (Option Value)} (X : K.In h) (G : h.Ns mainGlobals mg)
    (a : PySem.W.nsIn K mainGlobals x = some (some (.ref q))) (l : K.lookup q = some ⟨.type "tuple", od, .seq its m, sl⟩) (v : Vals xs its.toList) (z : xs.length ≤ 1000) : CT K mg x xs := ⟨q, PySem.W.mg_of X G a, sqt_mk l v z⟩
theorem ci_mk {K : PySem.W.Frag} {h : Heap} {mg : Str → Option Value} {x : Str} {i : Int} {t : Tok} (X : K.In h) (G : h.Ns mainGlobals mg) (a : PySem.W.nsIn K mainGlobals x = some (some (.int i t))) : CI mg x i := ⟨t, PySem.W.mg_of X G a⟩
theorem size_pos (nd : Nd) : 1 ≤ nd.size := by
  rw [size_sum]
  omega
theorem no_node {K : PySem.W.Frag} {vs : List V} {H : Hp} {Q : VK} {E : XK} (h : spNode K 0 vs H Q E) : False := by
  obtain ⟨t, p, x, u, pt, nd, ns, _, _, _, _, _, h, _⟩ := h
  have := size_pos nd
  omega
theorem no_all {K : PySem.W.Frag} {vs : List V} {H : Hp} {Q : VK} {E : XK} (h : spAll K 0 vs H Q E) : False := by
  obtain ⟨p, t, nd, pt, _, _, h, _⟩ := h
  have := size_pos nd
  omega
theorem no_adm {K : PySem.W.Frag} {vs : List V} {H : Hp} {Q : VK} {E : XK} (h : spAdm K 0 vs H Q E) : False := by
  obtain ⟨sch, l, p, t, m, rows, nd, pt, _, _, _, _, _, _, h, _⟩ := h
  have := size_pos nd
  omega
theorem no_put {K : PySem.W.Frag} {vs : List V} {H : Hp} {Q : VK} {E : XK} (h : spPut K 0 vs H Q E) : False := by
  obtain ⟨r, p, sch, n, nd, m, _, h, _⟩ := h
  have := size_pos nd
  omega
theorem no_add {K : PySem.W.Frag} {vs : List V} {H : Hp} {Q : VK} {E : XK} (h : spAddRows K 0 vs H Q E) : False := by
  obtain ⟨l, t, p, nd, pt, its, X, _, _, h, _⟩ := h
  have := size_pos nd
  omega
theorem no_lab {K : PySem.W.Frag} {vs : List V} {H : Hp} {Q : VK} {E : XK} (h : PV (preLab K 0) vs H Q E) : False := by
  obtain ⟨v, ⟨sch, nm, q, m, rows, nd, _, _, _, _, _, _, h, _⟩, _⟩ := h
  have := size_pos nd
  omega
theorem no_right {K : PySem.W.Frag} {vs : List V} {H : Hp} {Q : VK} {E : XK} (h : PV (preRight K 0) vs H Q E) : False := by
  obtain ⟨v, ⟨sch, l, p, m, rows, nd, _, _, h, _⟩, _⟩ := h
  have := size_pos nd
  omega

theorem all_mk {Pr : Program} {w : World} {K : PySem.W.Frag} {h : Heap} {mg : Str → Option Value} {fa : Addr} (X : K.In h) (G : h.Ns mainGlobals mg) (hfa : mg "law" = some (.ref fa))
    {f_check_widths : Addr} {oc_check_widths kV_check_widths dc_check_widths pm_check_widths cd_check_widths ct_check_widths : Value} {od_check_widths an_check_widths : Option Addr} {sl_check_widths : Array (Option Value)}
    {f_check_model : Addr} {oc_check_model kV_check_model dc_check_model pm_check_model cd_check_model ct_check_model : Value} {od_check_model an_check_model : Option Addr} {sl_check_model : Array (Option Value)}
    {f_bits_of : Addr} {oc_bits_of kV_bits_of dc_bits_of pm_bits_of cd_bits_of ct_bits_of : Value} {od_bits_of an_bits_of : Option Addr} {sl_bits_of : Array (Option Value)}
    {f_is_unsigned : Addr} {oc_is_unsigned kV_is_unsigned dc_is_unsigned pm_is_unsigned cd_is_unsigned ct_is_unsigned : Value} {od_is_unsigned an_is_unsigned : Option Addr} {sl_is_unsigned : Array (Option Value)}
    {f_limits_of : Addr} {oc_limits_of kV_limits_of dc_limits_of pm_limits_of cd_limits_of ct_limits_of : Value} {od_limits_of an_limits_of : Option Addr} {sl_limits_of : Array (Option Value)}
    {f_is_held : Addr} {oc_is_held kV_is_held dc_is_held pm_is_held cd_is_held ct_is_held : Value} {od_is_held an_is_held : Option Addr} {sl_is_held : Array (Option Value)}
    {f_promoted_kind : Addr} {oc_promoted_kind kV_promoted_kind dc_promoted_kind pm_promoted_kind cd_promoted_kind ct_promoted_kind : Value} {od_promoted_kind an_promoted_kind : Option Addr} {sl_promoted_kind : Array (Option Value)}
    {f_common_of_mixed : Addr} {oc_common_of_mixed kV_common_of_mixed dc_common_of_mixed pm_common_of_mixed cd_common_of_mixed ct_common_of_mixed : Value} {od_common_of_mixed an_common_of_mixed : Option Addr} {sl_common_of_mixed : Array (Option Value)}
    {f_common_kind : Addr} {oc_common_kind kV_common_kind dc_common_kind pm_common_kind cd_common_kind ct_common_kind : Value} {od_common_kind an_common_kind : Option Addr} {sl_common_kind : Array (Option Value)}
    {f_is_name : Addr} {oc_is_name kV_is_name dc_is_name pm_is_name cd_is_name ct_is_name : Value} {od_is_name an_is_name : Option Addr} {sl_is_name : Array (Option Value)}
    {f_check_variables : Addr} {oc_check_variables kV_check_variables dc_check_variables pm_check_variables cd_check_variables ct_check_variables : Value} {od_check_variables an_check_variables : Option Addr} {sl_check_variables : Array (Option Value)}
    {f_fits : Addr} {oc_fits kV_fits dc_fits pm_fits cd_fits ct_fits : Value} {od_fits an_fits : Option Addr} {sl_fits : Array (Option Value)}
    {f_has_items : Addr} {oc_has_items kV_has_items dc_has_items pm_has_items cd_has_items ct_has_items : Value} {od_has_items an_has_items : Option Addr} {sl_has_items : Array (Option Value)}
    {f_has_form : Addr} {oc_has_form kV_has_form dc_has_form pm_has_form cd_has_form ct_has_form : Value} {od_has_form an_has_form : Option Addr} {sl_has_form : Array (Option Value)}
    {f_parts : Addr} {oc_parts kV_parts dc_parts pm_parts cd_parts ct_parts : Value} {od_parts an_parts : Option Addr} {sl_parts : Array (Option Value)}
    {f_check_node : Addr} {oc_check_node kV_check_node dc_check_node pm_check_node cd_check_node ct_check_node : Value} {od_check_node an_check_node : Option Addr} {sl_check_node : Array (Option Value)}
    {f_check_expression : Addr} {oc_check_expression kV_check_expression dc_check_expression pm_check_expression cd_check_expression ct_check_expression : Value} {od_check_expression an_check_expression : Option Addr} {sl_check_expression : Array (Option Value)}
    {f_all_nodes : Addr} {oc_all_nodes kV_all_nodes dc_all_nodes pm_all_nodes cd_all_nodes ct_all_nodes : Value} {od_all_nodes an_all_nodes : Option Addr} {sl_all_nodes : Array (Option Value)}
    {dT_all_nodes e0_all_nodes : Addr} {dk_all_nodes ek_all_nodes : Option Addr} {dn_all_nodes en_all_nodes : Nat} {dsl_all_nodes esl_all_nodes : Array (Option Value)}
    {f_literal_start : Addr} {oc_literal_start kV_literal_start dc_literal_start pm_literal_start cd_literal_start ct_literal_start : Value} {od_literal_start an_literal_start : Option Addr} {sl_literal_start : Array (Option Value)}
    {f_literal_kind : Addr} {oc_literal_kind kV_literal_kind dc_literal_kind pm_literal_kind cd_literal_kind ct_literal_kind : Value} {od_literal_kind an_literal_kind : Option Addr} {sl_literal_kind : Array (Option Value)}
    {f_add_rows : Addr} {oc_add_rows kV_add_rows dc_add_rows pm_add_rows cd_add_rows ct_add_rows : Value} {od_add_rows an_add_rows : Option Addr} {sl_add_rows : Array (Option Value)}
    {f_rows_of : Addr} {oc_rows_of kV_rows_of dc_rows_of pm_rows_of cd_rows_of ct_rows_of : Value} {od_rows_of an_rows_of : Option Addr} {sl_rows_of : Array (Option Value)}
    {f_kinds_by_name : Addr} {oc_kinds_by_name kV_kinds_by_name dc_kinds_by_name pm_kinds_by_name cd_kinds_by_name ct_kinds_by_name : Value} {od_kinds_by_name an_kinds_by_name : Option Addr} {sl_kinds_by_name : Array (Option Value)}
    {f_own_kind : Addr} {oc_own_kind kV_own_kind dc_own_kind pm_own_kind cd_own_kind ct_own_kind : Value} {od_own_kind an_own_kind : Option Addr} {sl_own_kind : Array (Option Value)}
    {f_kinds_of : Addr} {oc_kinds_of kV_kinds_of dc_kinds_of pm_kinds_of cd_kinds_of ct_kinds_of : Value} {od_kinds_of an_kinds_of : Option Addr} {sl_kinds_of : Array (Option Value)}
    {f_refusal : Addr} {oc_refusal kV_refusal dc_refusal pm_refusal cd_refusal ct_refusal : Value} {od_refusal an_refusal : Option Addr} {sl_refusal : Array (Option Value)}
    {f_check_admission : Addr} {oc_check_admission kV_check_admission dc_check_admission pm_check_admission cd_check_admission ct_check_admission : Value} {od_check_admission an_check_admission : Option Addr} {sl_check_admission : Array (Option Value)}
    {f_type_of : Addr} {oc_type_of kV_type_of dc_type_of pm_type_of cd_type_of ct_type_of : Value} {od_type_of an_type_of : Option Addr} {sl_type_of : Array (Option Value)}
    {f_law_rng : Addr} {oc_law_rng kV_law_rng dc_law_rng pm_law_rng cd_law_rng ct_law_rng : Value} {od_law_rng an_law_rng : Option Addr} {sl_law_rng : Array (Option Value)}
    {f_law_draw : Addr} {oc_law_draw kV_law_draw dc_law_draw pm_law_draw cd_law_draw ct_law_draw : Value} {od_law_draw an_law_draw : Option Addr} {sl_law_draw : Array (Option Value)}
    {f_law_labels : Addr} {oc_law_labels kV_law_labels dc_law_labels pm_law_labels cd_law_labels ct_law_labels : Value} {od_law_labels an_law_labels : Option Addr} {sl_law_labels : Array (Option Value)}
    {f_law_rank : Addr} {oc_law_rank kV_law_rank dc_law_rank pm_law_rank cd_law_rank ct_law_rank : Value} {od_law_rank an_law_rank : Option Addr} {sl_law_rank : Array (Option Value)}
    {f_law_is_signed : Addr} {oc_law_is_signed kV_law_is_signed dc_law_is_signed pm_law_is_signed cd_law_is_signed ct_law_is_signed : Value} {od_law_is_signed an_law_is_signed : Option Addr} {sl_law_is_signed : Array (Option Value)}
    {f_law_holds : Addr} {oc_law_holds kV_law_holds dc_law_holds pm_law_holds cd_law_holds ct_law_holds : Value} {od_law_holds an_law_holds : Option Addr} {sl_law_holds : Array (Option Value)}
    {f_law_of : Addr} {oc_law_of kV_law_of dc_law_of pm_law_of cd_law_of ct_law_of : Value} {od_law_of an_law_of : Option Addr} {sl_law_of : Array (Option Value)}
    {f_law_promoted : Addr} {oc_law_promoted kV_law_promoted dc_law_promoted pm_law_promoted cd_law_promoted ct_law_promoted : Value} {od_law_promoted an_law_promoted : Option Addr} {sl_law_promoted : Array (Option Value)}
    {f_law_common : Addr} {oc_law_common kV_law_common dc_law_common pm_law_common cd_law_common ct_law_common : Value} {od_law_common an_law_common : Option Addr} {sl_law_common : Array (Option Value)}
    {f_law_scheme : Addr} {oc_law_scheme kV_law_scheme dc_law_scheme pm_law_scheme cd_law_scheme ct_law_scheme : Value} {od_law_scheme an_law_scheme : Option Addr} {sl_law_scheme : Array (Option Value)}
    {f_law_given : Addr} {oc_law_given kV_law_given dc_law_given pm_law_given cd_law_given ct_law_given : Value} {od_law_given an_law_given : Option Addr} {sl_law_given : Array (Option Value)}
    {f_law_leaf : Addr} {oc_law_leaf kV_law_leaf dc_law_leaf pm_law_leaf cd_law_leaf ct_law_leaf : Value} {od_law_leaf an_law_leaf : Option Addr} {sl_law_leaf : Array (Option Value)}
    {f_law_one : Addr} {oc_law_one kV_law_one dc_law_one pm_law_one cd_law_one ct_law_one : Value} {od_law_one an_law_one : Option Addr} {sl_law_one : Array (Option Value)}
    {f_law_tree : Addr} {oc_law_tree kV_law_tree dc_law_tree pm_law_tree cd_law_tree ct_law_tree : Value} {od_law_tree an_law_tree : Option Addr} {sl_law_tree : Array (Option Value)}
    {f_law_test : Addr} {oc_law_test kV_law_test dc_law_test pm_law_test cd_law_test ct_law_test : Value} {od_law_test an_law_test : Option Addr} {sl_law_test : Array (Option Value)}
    {f_law_whole : Addr} {oc_law_whole kV_law_whole dc_law_whole pm_law_whole cd_law_whole ct_law_whole : Value} {od_law_whole an_law_whole : Option Addr} {sl_law_whole : Array (Option Value)}
    {f_law_parts : Addr} {oc_law_parts kV_law_parts dc_law_parts pm_law_parts cd_law_parts ct_law_parts : Value} {od_law_parts an_law_parts : Option Addr} {sl_law_parts : Array (Option Value)}
    {f_law_literal : Addr} {oc_law_literal kV_law_literal dc_law_literal pm_law_literal cd_law_literal ct_law_literal : Value} {od_law_literal an_law_literal : Option Addr} {sl_law_literal : Array (Option Value)}
    {f_law_label_of : Addr} {oc_law_label_of kV_law_label_of dc_law_label_of pm_law_label_of cd_law_label_of ct_law_label_of : Value} {od_law_label_of an_law_label_of : Option Addr} {sl_law_label_of : Array (Option Value)}
    {f_law_admission : Addr} {oc_law_admission kV_law_admission dc_law_admission pm_law_admission cd_law_admission ct_law_admission : Value} {od_law_admission an_law_admission : Option Addr} {sl_law_admission : Array (Option Value)}
    {f_law_told : Addr} {oc_law_told kV_law_told dc_law_told pm_law_told cd_law_told ct_law_told : Value} {od_law_told an_law_told : Option Addr} {sl_law_told : Array (Option Value)}
    {f_law_right : Addr} {oc_law_right kV_law_right dc_law_right pm_law_right cd_law_right ct_law_right : Value} {od_law_right an_law_right : Option Addr} {sl_law_right : Array (Option Value)}
    {f_law : Addr} {oc_law kV_law dc_law pm_law cd_law ct_law : Value} {od_law an_law : Option Addr} {sl_law : Array (Option Value)}
    {qKINDS : Addr} {qdKINDS : Option Addr} {itsKINDS : Array Value} {qmKINDS : Nat} {qsKINDS : Array (Option Value)}
    {qSIGNED : Addr} {qdSIGNED : Option Addr} {itsSIGNED : Array Value} {qmSIGNED : Nat} {qsSIGNED : Array (Option Value)}
    {qUNSIGNED : Addr} {qdUNSIGNED : Option Addr} {itsUNSIGNED : Array Value} {qmUNSIGNED : Nat} {qsUNSIGNED : Array (Option Value)}
    {qPLAIN_SIGNS : Addr} {qdPLAIN_SIGNS : Option Addr} {itsPLAIN_SIGNS : Array Value} {qmPLAIN_SIGNS : Nat} {qsPLAIN_SIGNS : Array (Option Value)}
    {qRESERVED : Addr} {qdRESERVED : Option Addr} {itsRESERVED : Array Value} {qmRESERVED : Nat} {qsRESERVED : Array (Option Value)}
    {qSUFFIXES : Addr} {qdSUFFIXES : Option Addr} {itsSUFFIXES : Array Value} {qmSUFFIXES : Nat} {qsSUFFIXES : Array (Option Value)}
    {qCONDITIONS : Addr} {qdCONDITIONS : Option Addr} {itsCONDITIONS : Array Value} {qmCONDITIONS : Nat} {qsCONDITIONS : Array (Option Value)}
    {qPART_FORMS : Addr} {qdPART_FORMS : Option Addr} {itsPART_FORMS : Array Value} {qmPART_FORMS : Nat} {qsPART_FORMS : Array (Option Value)}
    {tILEAST_WIDTH : Tok}
    {tIGREATEST_WIDTH : Tok}
    {tIINT_RANK : Tok}
    {tILONGEST_NAME : Tok}
    {qR : Addr} {esR : Array DictEntry} {nR : Nat}
    {tR0 : Tok}
    {tR1 : Tok}
    {tR2 : Tok}
    {tR3 : Tok}
    {tR4 : Tok}
    {tR5 : Tok}
    {tR6 : Tok}
    {tR7 : Tok}
    {tR8 : Tok}
    {tR9 : Tok}
    {tR10 : Tok}
    {qI : Addr} {esI : Array DictEntry} {nI : Nat}
    {wt0 : Addr} {wd0 : Option Addr} {wi0 : Array Value} {wm0 : Nat} {ws0 : Array (Option Value)}
    {wt1 : Addr} {wd1 : Option Addr} {wi1 : Array Value} {wm1 : Nat} {ws1 : Array (Option Value)}
    {wt2 : Addr} {wd2 : Option Addr} {wi2 : Array Value} {wm2 : Nat} {ws2 : Array (Option Value)}
    {wt3 : Addr} {wd3 : Option Addr} {wi3 : Array Value} {wm3 : Nat} {ws3 : Array (Option Value)}
    {wt4 : Addr} {wd4 : Option Addr} {wi4 : Array Value} {wm4 : Nat} {ws4 : Array (Option Value)}
    {wt5 : Addr} {wd5 : Option Addr} {wi5 : Array Value} {wm5 : Nat} {ws5 : Array (Option Value)}
    {wt6 : Addr} {wd6 : Option Addr} {wi6 : Array Value} {wm6 : Nat} {ws6 : Array (Option Value)}
    {wt7 : Addr} {wd7 : Option Addr} {wi7 : Array Value} {wm7 : Nat} {ws7 : Array (Option Value)}
    {wt8 : Addr} {wd8 : Option Addr} {wi8 : Array Value} {wm8 : Nat} {ws8 : Array (Option Value)}
    {wt9 : Addr} {wd9 : Option Addr} {wi9 : Array Value} {wm9 : Nat} {ws9 : Array (Option Value)}
    {wt10 : Addr} {wd10 : Option Addr} {wi10 : Array Value} {wm10 : Nat} {ws10 : Array (Option Value)}
    {wt11 : Addr} {wd11 : Option Addr} {wi11 : Array Value} {wm11 : Nat} {ws11 : Array (Option Value)}
    {wt12 : Addr} {wd12 : Option Addr} {wi12 : Array Value} {wm12 : Nat} {ws12 : Array (Option Value)}
    {wt13 : Addr} {wd13 : Option Addr} {wi13 : Array Value} {wm13 : Nat} {ws13 : Array (Option Value)}
    {wt14 : Addr} {wd14 : Option Addr} {wi14 : Array Value} {wm14 : Nat} {ws14 : Array (Option Value)}
    {tL : Tok}
    {xc0 : Addr}
    {xn0 xq0 : Str} {xN0 xf0 : Addr} {xbs0 xbm0 xsub0 : List Value} {xsn0 : List Str} {xab0 : Bool} {xcol0 : Option Bool} {xdd0 : Option Addr} {xm00 xm10 xm20 xm30 xm50 : Option Value} {ioc0 ikV0 idc0 ipm0 icd0 ict0 : Value} {iod0 ian0 : Option Addr} {isl0 : Array (Option Value)}
    (a_check_widths : PySem.W.nsIn K mainGlobals "check_widths" = some (some (.ref f_check_widths)))
    (l_check_widths : K.lookup f_check_widths = some ⟨oc_check_widths, od_check_widths, .func (PySem.W.fnOf "check_widths" "check_widths" (defArgs s_check_widths) (defBody s_check_widths) (defScope s_check_widths) .none kV_check_widths dc_check_widths pm_check_widths an_check_widths cd_check_widths ct_check_widths), sl_check_widths⟩)
    (c_check_widths : PySem.W.codeIn K cd_check_widths "check_widths" = true)
    (k_check_widths : PySem.W.keepIn K (.ref f_check_widths) = true)
    (a_check_model : PySem.W.nsIn K mainGlobals "check_model" = some (some (.ref f_check_model)))
    (l_check_model : K.lookup f_check_model = some ⟨oc_check_model, od_check_model, .func (PySem.W.fnOf "check_model" "check_model" (defArgs s_check_model) (defBody s_check_model) (defScope s_check_model) .none kV_check_model dc_check_model pm_check_model an_check_model cd_check_model ct_check_model), sl_check_model⟩)
    (c_check_model : PySem.W.codeIn K cd_check_model "check_model" = true)
    (k_check_model : PySem.W.keepIn K (.ref f_check_model) = true)
    (a_bits_of : PySem.W.nsIn K mainGlobals "bits_of" = some (some (.ref f_bits_of)))
    (l_bits_of : K.lookup f_bits_of = some ⟨oc_bits_of, od_bits_of, .func (PySem.W.fnOf "bits_of" "bits_of" (defArgs s_bits_of) (defBody s_bits_of) (defScope s_bits_of) .none kV_bits_of dc_bits_of pm_bits_of an_bits_of cd_bits_of ct_bits_of), sl_bits_of⟩)
    (c_bits_of : PySem.W.codeIn K cd_bits_of "bits_of" = true)
    (k_bits_of : PySem.W.keepIn K (.ref f_bits_of) = true)
    (a_is_unsigned : PySem.W.nsIn K mainGlobals "is_unsigned" = some (some (.ref f_is_unsigned)))
    (l_is_unsigned : K.lookup f_is_unsigned = some ⟨oc_is_unsigned, od_is_unsigned, .func (PySem.W.fnOf "is_unsigned" "is_unsigned" (defArgs s_is_unsigned) (defBody s_is_unsigned) (defScope s_is_unsigned) .none kV_is_unsigned dc_is_unsigned pm_is_unsigned an_is_unsigned cd_is_unsigned ct_is_unsigned), sl_is_unsigned⟩)
    (c_is_unsigned : PySem.W.codeIn K cd_is_unsigned "is_unsigned" = true)
    (k_is_unsigned : PySem.W.keepIn K (.ref f_is_unsigned) = true)
    (a_limits_of : PySem.W.nsIn K mainGlobals "limits_of" = some (some (.ref f_limits_of)))
    (l_limits_of : K.lookup f_limits_of = some ⟨oc_limits_of, od_limits_of, .func (PySem.W.fnOf "limits_of" "limits_of" (defArgs s_limits_of) (defBody s_limits_of) (defScope s_limits_of) .none kV_limits_of dc_limits_of pm_limits_of an_limits_of cd_limits_of ct_limits_of), sl_limits_of⟩)
    (c_limits_of : PySem.W.codeIn K cd_limits_of "limits_of" = true)
    (k_limits_of : PySem.W.keepIn K (.ref f_limits_of) = true)
    (a_is_held : PySem.W.nsIn K mainGlobals "is_held" = some (some (.ref f_is_held)))
    (l_is_held : K.lookup f_is_held = some ⟨oc_is_held, od_is_held, .func (PySem.W.fnOf "is_held" "is_held" (defArgs s_is_held) (defBody s_is_held) (defScope s_is_held) .none kV_is_held dc_is_held pm_is_held an_is_held cd_is_held ct_is_held), sl_is_held⟩)
    (c_is_held : PySem.W.codeIn K cd_is_held "is_held" = true)
    (k_is_held : PySem.W.keepIn K (.ref f_is_held) = true)
    (a_promoted_kind : PySem.W.nsIn K mainGlobals "promoted_kind" = some (some (.ref f_promoted_kind)))
    (l_promoted_kind : K.lookup f_promoted_kind = some ⟨oc_promoted_kind, od_promoted_kind, .func (PySem.W.fnOf "promoted_kind" "promoted_kind" (defArgs s_promoted_kind) (defBody s_promoted_kind) (defScope s_promoted_kind) .none kV_promoted_kind dc_promoted_kind pm_promoted_kind an_promoted_kind cd_promoted_kind ct_promoted_kind), sl_promoted_kind⟩)
    (c_promoted_kind : PySem.W.codeIn K cd_promoted_kind "promoted_kind" = true)
    (k_promoted_kind : PySem.W.keepIn K (.ref f_promoted_kind) = true)
    (a_common_of_mixed : PySem.W.nsIn K mainGlobals "_common_of_mixed" = some (some (.ref f_common_of_mixed)))
    (l_common_of_mixed : K.lookup f_common_of_mixed = some ⟨oc_common_of_mixed, od_common_of_mixed, .func (PySem.W.fnOf "_common_of_mixed" "_common_of_mixed" (defArgs s__common_of_mixed) (defBody s__common_of_mixed) (defScope s__common_of_mixed) .none kV_common_of_mixed dc_common_of_mixed pm_common_of_mixed an_common_of_mixed cd_common_of_mixed ct_common_of_mixed), sl_common_of_mixed⟩)
    (c_common_of_mixed : PySem.W.codeIn K cd_common_of_mixed "_common_of_mixed" = true)
    (k_common_of_mixed : PySem.W.keepIn K (.ref f_common_of_mixed) = true)
    (a_common_kind : PySem.W.nsIn K mainGlobals "common_kind" = some (some (.ref f_common_kind)))
    (l_common_kind : K.lookup f_common_kind = some ⟨oc_common_kind, od_common_kind, .func (PySem.W.fnOf "common_kind" "common_kind" (defArgs s_common_kind) (defBody s_common_kind) (defScope s_common_kind) .none kV_common_kind dc_common_kind pm_common_kind an_common_kind cd_common_kind ct_common_kind), sl_common_kind⟩)
    (c_common_kind : PySem.W.codeIn K cd_common_kind "common_kind" = true)
    (k_common_kind : PySem.W.keepIn K (.ref f_common_kind) = true)
    (a_is_name : PySem.W.nsIn K mainGlobals "is_name" = some (some (.ref f_is_name)))
    (l_is_name : K.lookup f_is_name = some ⟨oc_is_name, od_is_name, .func (PySem.W.fnOf "is_name" "is_name" (defArgs s_is_name) (defBody s_is_name) (defScope s_is_name) .none kV_is_name dc_is_name pm_is_name an_is_name cd_is_name ct_is_name), sl_is_name⟩)
    (c_is_name : PySem.W.codeIn K cd_is_name "is_name" = true)
    (k_is_name : PySem.W.keepIn K (.ref f_is_name) = true)
    (a_check_variables : PySem.W.nsIn K mainGlobals "check_variables" = some (some (.ref f_check_variables)))
    (l_check_variables : K.lookup f_check_variables = some ⟨oc_check_variables, od_check_variables, .func (PySem.W.fnOf "check_variables" "check_variables" (defArgs s_check_variables) (defBody s_check_variables) (defScope s_check_variables) .none kV_check_variables dc_check_variables pm_check_variables an_check_variables cd_check_variables ct_check_variables), sl_check_variables⟩)
    (c_check_variables : PySem.W.codeIn K cd_check_variables "check_variables" = true)
    (k_check_variables : PySem.W.keepIn K (.ref f_check_variables) = true)
    (a_fits : PySem.W.nsIn K mainGlobals "_fits" = some (some (.ref f_fits)))
    (l_fits : K.lookup f_fits = some ⟨oc_fits, od_fits, .func (PySem.W.fnOf "_fits" "_fits" (defArgs s__fits) (defBody s__fits) (defScope s__fits) .none kV_fits dc_fits pm_fits an_fits cd_fits ct_fits), sl_fits⟩)
    (c_fits : PySem.W.codeIn K cd_fits "_fits" = true)
    (k_fits : PySem.W.keepIn K (.ref f_fits) = true)
    (a_has_items : PySem.W.nsIn K mainGlobals "_has_items" = some (some (.ref f_has_items)))
    (l_has_items : K.lookup f_has_items = some ⟨oc_has_items, od_has_items, .func (PySem.W.fnOf "_has_items" "_has_items" (defArgs s__has_items) (defBody s__has_items) (defScope s__has_items) .none kV_has_items dc_has_items pm_has_items an_has_items cd_has_items ct_has_items), sl_has_items⟩)
    (c_has_items : PySem.W.codeIn K cd_has_items "_has_items" = true)
    (k_has_items : PySem.W.keepIn K (.ref f_has_items) = true)
    (a_has_form : PySem.W.nsIn K mainGlobals "_has_form" = some (some (.ref f_has_form)))
    (l_has_form : K.lookup f_has_form = some ⟨oc_has_form, od_has_form, .func (PySem.W.fnOf "_has_form" "_has_form" (defArgs s__has_form) (defBody s__has_form) (defScope s__has_form) .none kV_has_form dc_has_form pm_has_form an_has_form cd_has_form ct_has_form), sl_has_form⟩)
    (c_has_form : PySem.W.codeIn K cd_has_form "_has_form" = true)
    (k_has_form : PySem.W.keepIn K (.ref f_has_form) = true)
    (a_parts : PySem.W.nsIn K mainGlobals "parts" = some (some (.ref f_parts)))
    (l_parts : K.lookup f_parts = some ⟨oc_parts, od_parts, .func (PySem.W.fnOf "parts" "parts" (defArgs s_parts) (defBody s_parts) (defScope s_parts) .none kV_parts dc_parts pm_parts an_parts cd_parts ct_parts), sl_parts⟩)
    (c_parts : PySem.W.codeIn K cd_parts "parts" = true)
    (k_parts : PySem.W.keepIn K (.ref f_parts) = true)
    (a_check_node : PySem.W.nsIn K mainGlobals "_check_node" = some (some (.ref f_check_node)))
    (l_check_node : K.lookup f_check_node = some ⟨oc_check_node, od_check_node, .func (PySem.W.fnOf "_check_node" "_check_node" (defArgs s__check_node) (defBody s__check_node) (defScope s__check_node) .none kV_check_node dc_check_node pm_check_node an_check_node cd_check_node ct_check_node), sl_check_node⟩)
    (c_check_node : PySem.W.codeIn K cd_check_node "_check_node" = true)
    (k_check_node : PySem.W.keepIn K (.ref f_check_node) = true)
    (a_check_expression : PySem.W.nsIn K mainGlobals "check_expression" = some (some (.ref f_check_expression)))
    (l_check_expression : K.lookup f_check_expression = some ⟨oc_check_expression, od_check_expression, .func (PySem.W.fnOf "check_expression" "check_expression" (defArgs s_check_expression) (defBody s_check_expression) (defScope s_check_expression) .none kV_check_expression dc_check_expression pm_check_expression an_check_expression cd_check_expression ct_check_expression), sl_check_expression⟩)
    (c_check_expression : PySem.W.codeIn K cd_check_expression "check_expression" = true)
    (k_check_expression : PySem.W.keepIn K (.ref f_check_expression) = true)
    (a_all_nodes : PySem.W.nsIn K mainGlobals "all_nodes" = some (some (.ref f_all_nodes)))
    (l_all_nodes : K.lookup f_all_nodes = some ⟨oc_all_nodes, od_all_nodes, .func (PySem.W.fnOf "all_nodes" "all_nodes" (defArgs s_all_nodes) (defBody s_all_nodes) (defScope s_all_nodes) (.ref dT_all_nodes) kV_all_nodes dc_all_nodes pm_all_nodes an_all_nodes cd_all_nodes ct_all_nodes), sl_all_nodes⟩)
    (c_all_nodes : PySem.W.codeIn K cd_all_nodes "all_nodes" = true)
    (k_all_nodes : PySem.W.keepIn K (.ref f_all_nodes) = true)
    (dl_all_nodes : K.lookup dT_all_nodes = some ⟨.type "tuple", dk_all_nodes, .seq #[.ref e0_all_nodes] dn_all_nodes, dsl_all_nodes⟩)
    (de_all_nodes : K.lookup e0_all_nodes = some ⟨.type "tuple", ek_all_nodes, .seq #[] en_all_nodes, esl_all_nodes⟩)
    (a_literal_start : PySem.W.nsIn K mainGlobals "literal_start" = some (some (.ref f_literal_start)))
    (l_literal_start : K.lookup f_literal_start = some ⟨oc_literal_start, od_literal_start, .func (PySem.W.fnOf "literal_start" "literal_start" (defArgs s_literal_start) (defBody s_literal_start) (defScope s_literal_start) .none kV_literal_start dc_literal_start pm_literal_start an_literal_start cd_literal_start ct_literal_start), sl_literal_start⟩)
    (c_literal_start : PySem.W.codeIn K cd_literal_start "literal_start" = true)
    (k_literal_start : PySem.W.keepIn K (.ref f_literal_start) = true)
    (a_literal_kind : PySem.W.nsIn K mainGlobals "literal_kind" = some (some (.ref f_literal_kind)))
    (l_literal_kind : K.lookup f_literal_kind = some ⟨oc_literal_kind, od_literal_kind, .func (PySem.W.fnOf "literal_kind" "literal_kind" (defArgs s_literal_kind) (defBody s_literal_kind) (defScope s_literal_kind) .none kV_literal_kind dc_literal_kind pm_literal_kind an_literal_kind cd_literal_kind ct_literal_kind), sl_literal_kind⟩)
    (c_literal_kind : PySem.W.codeIn K cd_literal_kind "literal_kind" = true)
    (k_literal_kind : PySem.W.keepIn K (.ref f_literal_kind) = true)
    (a_add_rows : PySem.W.nsIn K mainGlobals "_add_rows" = some (some (.ref f_add_rows)))
    (l_add_rows : K.lookup f_add_rows = some ⟨oc_add_rows, od_add_rows, .func (PySem.W.fnOf "_add_rows" "_add_rows" (defArgs s__add_rows) (defBody s__add_rows) (defScope s__add_rows) .none kV_add_rows dc_add_rows pm_add_rows an_add_rows cd_add_rows ct_add_rows), sl_add_rows⟩)
    (c_add_rows : PySem.W.codeIn K cd_add_rows "_add_rows" = true)
    (k_add_rows : PySem.W.keepIn K (.ref f_add_rows) = true)
    (a_rows_of : PySem.W.nsIn K mainGlobals "rows_of" = some (some (.ref f_rows_of)))
    (l_rows_of : K.lookup f_rows_of = some ⟨oc_rows_of, od_rows_of, .func (PySem.W.fnOf "rows_of" "rows_of" (defArgs s_rows_of) (defBody s_rows_of) (defScope s_rows_of) .none kV_rows_of dc_rows_of pm_rows_of an_rows_of cd_rows_of ct_rows_of), sl_rows_of⟩)
    (c_rows_of : PySem.W.codeIn K cd_rows_of "rows_of" = true)
    (k_rows_of : PySem.W.keepIn K (.ref f_rows_of) = true)
    (a_kinds_by_name : PySem.W.nsIn K mainGlobals "kinds_by_name" = some (some (.ref f_kinds_by_name)))
    (l_kinds_by_name : K.lookup f_kinds_by_name = some ⟨oc_kinds_by_name, od_kinds_by_name, .func (PySem.W.fnOf "kinds_by_name" "kinds_by_name" (defArgs s_kinds_by_name) (defBody s_kinds_by_name) (defScope s_kinds_by_name) .none kV_kinds_by_name dc_kinds_by_name pm_kinds_by_name an_kinds_by_name cd_kinds_by_name ct_kinds_by_name), sl_kinds_by_name⟩)
    (c_kinds_by_name : PySem.W.codeIn K cd_kinds_by_name "kinds_by_name" = true)
    (k_kinds_by_name : PySem.W.keepIn K (.ref f_kinds_by_name) = true)
    (a_own_kind : PySem.W.nsIn K mainGlobals "own_kind" = some (some (.ref f_own_kind)))
    (l_own_kind : K.lookup f_own_kind = some ⟨oc_own_kind, od_own_kind, .func (PySem.W.fnOf "own_kind" "own_kind" (defArgs s_own_kind) (defBody s_own_kind) (defScope s_own_kind) .none kV_own_kind dc_own_kind pm_own_kind an_own_kind cd_own_kind ct_own_kind), sl_own_kind⟩)
    (c_own_kind : PySem.W.codeIn K cd_own_kind "own_kind" = true)
    (k_own_kind : PySem.W.keepIn K (.ref f_own_kind) = true)
    (a_kinds_of : PySem.W.nsIn K mainGlobals "kinds_of" = some (some (.ref f_kinds_of)))
    (l_kinds_of : K.lookup f_kinds_of = some ⟨oc_kinds_of, od_kinds_of, .func (PySem.W.fnOf "kinds_of" "kinds_of" (defArgs s_kinds_of) (defBody s_kinds_of) (defScope s_kinds_of) .none kV_kinds_of dc_kinds_of pm_kinds_of an_kinds_of cd_kinds_of ct_kinds_of), sl_kinds_of⟩)
    (c_kinds_of : PySem.W.codeIn K cd_kinds_of "kinds_of" = true)
    (k_kinds_of : PySem.W.keepIn K (.ref f_kinds_of) = true)
    (a_refusal : PySem.W.nsIn K mainGlobals "refusal" = some (some (.ref f_refusal)))
    (l_refusal : K.lookup f_refusal = some ⟨oc_refusal, od_refusal, .func (PySem.W.fnOf "refusal" "refusal" (defArgs s_refusal) (defBody s_refusal) (defScope s_refusal) .none kV_refusal dc_refusal pm_refusal an_refusal cd_refusal ct_refusal), sl_refusal⟩)
    (c_refusal : PySem.W.codeIn K cd_refusal "refusal" = true)
    (k_refusal : PySem.W.keepIn K (.ref f_refusal) = true)
    (a_check_admission : PySem.W.nsIn K mainGlobals "check_admission" = some (some (.ref f_check_admission)))
    (l_check_admission : K.lookup f_check_admission = some ⟨oc_check_admission, od_check_admission, .func (PySem.W.fnOf "check_admission" "check_admission" (defArgs s_check_admission) (defBody s_check_admission) (defScope s_check_admission) .none kV_check_admission dc_check_admission pm_check_admission an_check_admission cd_check_admission ct_check_admission), sl_check_admission⟩)
    (c_check_admission : PySem.W.codeIn K cd_check_admission "check_admission" = true)
    (k_check_admission : PySem.W.keepIn K (.ref f_check_admission) = true)
    (a_type_of : PySem.W.nsIn K mainGlobals "type_of" = some (some (.ref f_type_of)))
    (l_type_of : K.lookup f_type_of = some ⟨oc_type_of, od_type_of, .func (PySem.W.fnOf "type_of" "type_of" (defArgs s_type_of) (defBody s_type_of) (defScope s_type_of) .none kV_type_of dc_type_of pm_type_of an_type_of cd_type_of ct_type_of), sl_type_of⟩)
    (c_type_of : PySem.W.codeIn K cd_type_of "type_of" = true)
    (k_type_of : PySem.W.keepIn K (.ref f_type_of) = true)
    (a_law_rng : PySem.W.nsIn K mainGlobals "_law_rng" = some (some (.ref f_law_rng)))
    (l_law_rng : K.lookup f_law_rng = some ⟨oc_law_rng, od_law_rng, .func (PySem.W.fnOf "_law_rng" "_law_rng" (defArgs s__law_rng) (defBody s__law_rng) (defScope s__law_rng) .none kV_law_rng dc_law_rng pm_law_rng an_law_rng cd_law_rng ct_law_rng), sl_law_rng⟩)
    (c_law_rng : PySem.W.codeIn K cd_law_rng "_law_rng" = true)
    (k_law_rng : PySem.W.keepIn K (.ref f_law_rng) = true)
    (a_law_draw : PySem.W.nsIn K mainGlobals "_law_draw" = some (some (.ref f_law_draw)))
    (l_law_draw : K.lookup f_law_draw = some ⟨oc_law_draw, od_law_draw, .func (PySem.W.fnOf "_law_draw" "_law_draw" (defArgs s__law_draw) (defBody s__law_draw) (defScope s__law_draw) .none kV_law_draw dc_law_draw pm_law_draw an_law_draw cd_law_draw ct_law_draw), sl_law_draw⟩)
    (c_law_draw : PySem.W.codeIn K cd_law_draw "_law_draw" = true)
    (k_law_draw : PySem.W.keepIn K (.ref f_law_draw) = true)
    (a_law_labels : PySem.W.nsIn K mainGlobals "_law_labels" = some (some (.ref f_law_labels)))
    (l_law_labels : K.lookup f_law_labels = some ⟨oc_law_labels, od_law_labels, .func (PySem.W.fnOf "_law_labels" "_law_labels" (defArgs s__law_labels) (defBody s__law_labels) (defScope s__law_labels) .none kV_law_labels dc_law_labels pm_law_labels an_law_labels cd_law_labels ct_law_labels), sl_law_labels⟩)
    (c_law_labels : PySem.W.codeIn K cd_law_labels "_law_labels" = true)
    (k_law_labels : PySem.W.keepIn K (.ref f_law_labels) = true)
    (a_law_rank : PySem.W.nsIn K mainGlobals "_law_rank" = some (some (.ref f_law_rank)))
    (l_law_rank : K.lookup f_law_rank = some ⟨oc_law_rank, od_law_rank, .func (PySem.W.fnOf "_law_rank" "_law_rank" (defArgs s__law_rank) (defBody s__law_rank) (defScope s__law_rank) .none kV_law_rank dc_law_rank pm_law_rank an_law_rank cd_law_rank ct_law_rank), sl_law_rank⟩)
    (c_law_rank : PySem.W.codeIn K cd_law_rank "_law_rank" = true)
    (k_law_rank : PySem.W.keepIn K (.ref f_law_rank) = true)
    (a_law_is_signed : PySem.W.nsIn K mainGlobals "_law_is_signed" = some (some (.ref f_law_is_signed)))
    (l_law_is_signed : K.lookup f_law_is_signed = some ⟨oc_law_is_signed, od_law_is_signed, .func (PySem.W.fnOf "_law_is_signed" "_law_is_signed" (defArgs s__law_is_signed) (defBody s__law_is_signed) (defScope s__law_is_signed) .none kV_law_is_signed dc_law_is_signed pm_law_is_signed an_law_is_signed cd_law_is_signed ct_law_is_signed), sl_law_is_signed⟩)
    (c_law_is_signed : PySem.W.codeIn K cd_law_is_signed "_law_is_signed" = true)
    (k_law_is_signed : PySem.W.keepIn K (.ref f_law_is_signed) = true)
    (a_law_holds : PySem.W.nsIn K mainGlobals "_law_holds" = some (some (.ref f_law_holds)))
    (l_law_holds : K.lookup f_law_holds = some ⟨oc_law_holds, od_law_holds, .func (PySem.W.fnOf "_law_holds" "_law_holds" (defArgs s__law_holds) (defBody s__law_holds) (defScope s__law_holds) .none kV_law_holds dc_law_holds pm_law_holds an_law_holds cd_law_holds ct_law_holds), sl_law_holds⟩)
    (c_law_holds : PySem.W.codeIn K cd_law_holds "_law_holds" = true)
    (k_law_holds : PySem.W.keepIn K (.ref f_law_holds) = true)
    (a_law_of : PySem.W.nsIn K mainGlobals "_law_of" = some (some (.ref f_law_of)))
    (l_law_of : K.lookup f_law_of = some ⟨oc_law_of, od_law_of, .func (PySem.W.fnOf "_law_of" "_law_of" (defArgs s__law_of) (defBody s__law_of) (defScope s__law_of) .none kV_law_of dc_law_of pm_law_of an_law_of cd_law_of ct_law_of), sl_law_of⟩)
    (c_law_of : PySem.W.codeIn K cd_law_of "_law_of" = true)
    (k_law_of : PySem.W.keepIn K (.ref f_law_of) = true)
    (a_law_promoted : PySem.W.nsIn K mainGlobals "_law_promoted" = some (some (.ref f_law_promoted)))
    (l_law_promoted : K.lookup f_law_promoted = some ⟨oc_law_promoted, od_law_promoted, .func (PySem.W.fnOf "_law_promoted" "_law_promoted" (defArgs s__law_promoted) (defBody s__law_promoted) (defScope s__law_promoted) .none kV_law_promoted dc_law_promoted pm_law_promoted an_law_promoted cd_law_promoted ct_law_promoted), sl_law_promoted⟩)
    (c_law_promoted : PySem.W.codeIn K cd_law_promoted "_law_promoted" = true)
    (k_law_promoted : PySem.W.keepIn K (.ref f_law_promoted) = true)
    (a_law_common : PySem.W.nsIn K mainGlobals "_law_common" = some (some (.ref f_law_common)))
    (l_law_common : K.lookup f_law_common = some ⟨oc_law_common, od_law_common, .func (PySem.W.fnOf "_law_common" "_law_common" (defArgs s__law_common) (defBody s__law_common) (defScope s__law_common) .none kV_law_common dc_law_common pm_law_common an_law_common cd_law_common ct_law_common), sl_law_common⟩)
    (c_law_common : PySem.W.codeIn K cd_law_common "_law_common" = true)
    (k_law_common : PySem.W.keepIn K (.ref f_law_common) = true)
    (a_law_scheme : PySem.W.nsIn K mainGlobals "_law_scheme" = some (some (.ref f_law_scheme)))
    (l_law_scheme : K.lookup f_law_scheme = some ⟨oc_law_scheme, od_law_scheme, .func (PySem.W.fnOf "_law_scheme" "_law_scheme" (defArgs s__law_scheme) (defBody s__law_scheme) (defScope s__law_scheme) .none kV_law_scheme dc_law_scheme pm_law_scheme an_law_scheme cd_law_scheme ct_law_scheme), sl_law_scheme⟩)
    (c_law_scheme : PySem.W.codeIn K cd_law_scheme "_law_scheme" = true)
    (k_law_scheme : PySem.W.keepIn K (.ref f_law_scheme) = true)
    (a_law_given : PySem.W.nsIn K mainGlobals "_law_given" = some (some (.ref f_law_given)))
    (l_law_given : K.lookup f_law_given = some ⟨oc_law_given, od_law_given, .func (PySem.W.fnOf "_law_given" "_law_given" (defArgs s__law_given) (defBody s__law_given) (defScope s__law_given) .none kV_law_given dc_law_given pm_law_given an_law_given cd_law_given ct_law_given), sl_law_given⟩)
    (c_law_given : PySem.W.codeIn K cd_law_given "_law_given" = true)
    (k_law_given : PySem.W.keepIn K (.ref f_law_given) = true)
    (a_law_leaf : PySem.W.nsIn K mainGlobals "_law_leaf" = some (some (.ref f_law_leaf)))
    (l_law_leaf : K.lookup f_law_leaf = some ⟨oc_law_leaf, od_law_leaf, .func (PySem.W.fnOf "_law_leaf" "_law_leaf" (defArgs s__law_leaf) (defBody s__law_leaf) (defScope s__law_leaf) .none kV_law_leaf dc_law_leaf pm_law_leaf an_law_leaf cd_law_leaf ct_law_leaf), sl_law_leaf⟩)
    (c_law_leaf : PySem.W.codeIn K cd_law_leaf "_law_leaf" = true)
    (k_law_leaf : PySem.W.keepIn K (.ref f_law_leaf) = true)
    (a_law_one : PySem.W.nsIn K mainGlobals "_law_one" = some (some (.ref f_law_one)))
    (l_law_one : K.lookup f_law_one = some ⟨oc_law_one, od_law_one, .func (PySem.W.fnOf "_law_one" "_law_one" (defArgs s__law_one) (defBody s__law_one) (defScope s__law_one) .none kV_law_one dc_law_one pm_law_one an_law_one cd_law_one ct_law_one), sl_law_one⟩)
    (c_law_one : PySem.W.codeIn K cd_law_one "_law_one" = true)
    (k_law_one : PySem.W.keepIn K (.ref f_law_one) = true)
    (a_law_tree : PySem.W.nsIn K mainGlobals "_law_tree" = some (some (.ref f_law_tree)))
    (l_law_tree : K.lookup f_law_tree = some ⟨oc_law_tree, od_law_tree, .func (PySem.W.fnOf "_law_tree" "_law_tree" (defArgs s__law_tree) (defBody s__law_tree) (defScope s__law_tree) .none kV_law_tree dc_law_tree pm_law_tree an_law_tree cd_law_tree ct_law_tree), sl_law_tree⟩)
    (c_law_tree : PySem.W.codeIn K cd_law_tree "_law_tree" = true)
    (k_law_tree : PySem.W.keepIn K (.ref f_law_tree) = true)
    (a_law_test : PySem.W.nsIn K mainGlobals "_law_test" = some (some (.ref f_law_test)))
    (l_law_test : K.lookup f_law_test = some ⟨oc_law_test, od_law_test, .func (PySem.W.fnOf "_law_test" "_law_test" (defArgs s__law_test) (defBody s__law_test) (defScope s__law_test) .none kV_law_test dc_law_test pm_law_test an_law_test cd_law_test ct_law_test), sl_law_test⟩)
    (c_law_test : PySem.W.codeIn K cd_law_test "_law_test" = true)
    (k_law_test : PySem.W.keepIn K (.ref f_law_test) = true)
    (a_law_whole : PySem.W.nsIn K mainGlobals "_law_whole" = some (some (.ref f_law_whole)))
    (l_law_whole : K.lookup f_law_whole = some ⟨oc_law_whole, od_law_whole, .func (PySem.W.fnOf "_law_whole" "_law_whole" (defArgs s__law_whole) (defBody s__law_whole) (defScope s__law_whole) .none kV_law_whole dc_law_whole pm_law_whole an_law_whole cd_law_whole ct_law_whole), sl_law_whole⟩)
    (c_law_whole : PySem.W.codeIn K cd_law_whole "_law_whole" = true)
    (k_law_whole : PySem.W.keepIn K (.ref f_law_whole) = true)
    (a_law_parts : PySem.W.nsIn K mainGlobals "_law_parts" = some (some (.ref f_law_parts)))
    (l_law_parts : K.lookup f_law_parts = some ⟨oc_law_parts, od_law_parts, .func (PySem.W.fnOf "_law_parts" "_law_parts" (defArgs s__law_parts) (defBody s__law_parts) (defScope s__law_parts) .none kV_law_parts dc_law_parts pm_law_parts an_law_parts cd_law_parts ct_law_parts), sl_law_parts⟩)
    (c_law_parts : PySem.W.codeIn K cd_law_parts "_law_parts" = true)
    (k_law_parts : PySem.W.keepIn K (.ref f_law_parts) = true)
    (a_law_literal : PySem.W.nsIn K mainGlobals "_law_literal" = some (some (.ref f_law_literal)))
    (l_law_literal : K.lookup f_law_literal = some ⟨oc_law_literal, od_law_literal, .func (PySem.W.fnOf "_law_literal" "_law_literal" (defArgs s__law_literal) (defBody s__law_literal) (defScope s__law_literal) .none kV_law_literal dc_law_literal pm_law_literal an_law_literal cd_law_literal ct_law_literal), sl_law_literal⟩)
    (c_law_literal : PySem.W.codeIn K cd_law_literal "_law_literal" = true)
    (k_law_literal : PySem.W.keepIn K (.ref f_law_literal) = true)
    (a_law_label_of : PySem.W.nsIn K mainGlobals "_law_label_of" = some (some (.ref f_law_label_of)))
    (l_law_label_of : K.lookup f_law_label_of = some ⟨oc_law_label_of, od_law_label_of, .func (PySem.W.fnOf "_law_label_of" "_law_label_of" (defArgs s__law_label_of) (defBody s__law_label_of) (defScope s__law_label_of) .none kV_law_label_of dc_law_label_of pm_law_label_of an_law_label_of cd_law_label_of ct_law_label_of), sl_law_label_of⟩)
    (c_law_label_of : PySem.W.codeIn K cd_law_label_of "_law_label_of" = true)
    (k_law_label_of : PySem.W.keepIn K (.ref f_law_label_of) = true)
    (a_law_admission : PySem.W.nsIn K mainGlobals "_law_admission" = some (some (.ref f_law_admission)))
    (l_law_admission : K.lookup f_law_admission = some ⟨oc_law_admission, od_law_admission, .func (PySem.W.fnOf "_law_admission" "_law_admission" (defArgs s__law_admission) (defBody s__law_admission) (defScope s__law_admission) .none kV_law_admission dc_law_admission pm_law_admission an_law_admission cd_law_admission ct_law_admission), sl_law_admission⟩)
    (c_law_admission : PySem.W.codeIn K cd_law_admission "_law_admission" = true)
    (k_law_admission : PySem.W.keepIn K (.ref f_law_admission) = true)
    (a_law_told : PySem.W.nsIn K mainGlobals "_law_told" = some (some (.ref f_law_told)))
    (l_law_told : K.lookup f_law_told = some ⟨oc_law_told, od_law_told, .func (PySem.W.fnOf "_law_told" "_law_told" (defArgs s__law_told) (defBody s__law_told) (defScope s__law_told) .none kV_law_told dc_law_told pm_law_told an_law_told cd_law_told ct_law_told), sl_law_told⟩)
    (c_law_told : PySem.W.codeIn K cd_law_told "_law_told" = true)
    (k_law_told : PySem.W.keepIn K (.ref f_law_told) = true)
    (a_law_right : PySem.W.nsIn K mainGlobals "_law_right" = some (some (.ref f_law_right)))
    (l_law_right : K.lookup f_law_right = some ⟨oc_law_right, od_law_right, .func (PySem.W.fnOf "_law_right" "_law_right" (defArgs s__law_right) (defBody s__law_right) (defScope s__law_right) .none kV_law_right dc_law_right pm_law_right an_law_right cd_law_right ct_law_right), sl_law_right⟩)
    (c_law_right : PySem.W.codeIn K cd_law_right "_law_right" = true)
    (k_law_right : PySem.W.keepIn K (.ref f_law_right) = true)
    (a_law : PySem.W.nsIn K mainGlobals "law" = some (some (.ref f_law)))
    (l_law : K.lookup f_law = some ⟨oc_law, od_law, .func (PySem.W.fnOf "law" "law" (defArgs s_law) (defBody s_law) (defScope s_law) .none kV_law dc_law pm_law an_law cd_law ct_law), sl_law⟩)
    (c_law : PySem.W.codeIn K cd_law "law" = true)
    (k_law : PySem.W.keepIn K (.ref f_law) = true)
    (taKINDS : PySem.W.nsIn K mainGlobals "KINDS" = some (some (.ref qKINDS)))
    (tlKINDS : K.lookup qKINDS = some ⟨.type "tuple", qdKINDS, .seq itsKINDS qmKINDS, qsKINDS⟩)
    (tvKINDS : Vals vKINDS itsKINDS.toList)
    (taSIGNED : PySem.W.nsIn K mainGlobals "SIGNED" = some (some (.ref qSIGNED)))
    (tlSIGNED : K.lookup qSIGNED = some ⟨.type "tuple", qdSIGNED, .seq itsSIGNED qmSIGNED, qsSIGNED⟩)
    (tvSIGNED : Vals vSIGNED itsSIGNED.toList)
    (taUNSIGNED : PySem.W.nsIn K mainGlobals "UNSIGNED" = some (some (.ref qUNSIGNED)))
    (tlUNSIGNED : K.lookup qUNSIGNED = some ⟨.type "tuple", qdUNSIGNED, .seq itsUNSIGNED qmUNSIGNED, qsUNSIGNED⟩)
    (tvUNSIGNED : Vals vUNSIGNED itsUNSIGNED.toList)
    (taPLAIN_SIGNS : PySem.W.nsIn K mainGlobals "PLAIN_SIGNS" = some (some (.ref qPLAIN_SIGNS)))
    (tlPLAIN_SIGNS : K.lookup qPLAIN_SIGNS = some ⟨.type "tuple", qdPLAIN_SIGNS, .seq itsPLAIN_SIGNS qmPLAIN_SIGNS, qsPLAIN_SIGNS⟩)
    (tvPLAIN_SIGNS : Vals vPLAIN itsPLAIN_SIGNS.toList)
    (taRESERVED : PySem.W.nsIn K mainGlobals "RESERVED" = some (some (.ref qRESERVED)))
    (tlRESERVED : K.lookup qRESERVED = some ⟨.type "tuple", qdRESERVED, .seq itsRESERVED qmRESERVED, qsRESERVED⟩)
    (tvRESERVED : Vals vRESERVED itsRESERVED.toList)
    (taSUFFIXES : PySem.W.nsIn K mainGlobals "SUFFIXES" = some (some (.ref qSUFFIXES)))
    (tlSUFFIXES : K.lookup qSUFFIXES = some ⟨.type "tuple", qdSUFFIXES, .seq itsSUFFIXES qmSUFFIXES, qsSUFFIXES⟩)
    (tvSUFFIXES : Vals vSUFFIXES itsSUFFIXES.toList)
    (taCONDITIONS : PySem.W.nsIn K mainGlobals "CONDITIONS" = some (some (.ref qCONDITIONS)))
    (tlCONDITIONS : K.lookup qCONDITIONS = some ⟨.type "tuple", qdCONDITIONS, .seq itsCONDITIONS qmCONDITIONS, qsCONDITIONS⟩)
    (tvCONDITIONS : Vals vCONDITIONS itsCONDITIONS.toList)
    (taPART_FORMS : PySem.W.nsIn K mainGlobals "PART_FORMS" = some (some (.ref qPART_FORMS)))
    (tlPART_FORMS : K.lookup qPART_FORMS = some ⟨.type "tuple", qdPART_FORMS, .seq itsPART_FORMS qmPART_FORMS, qsPART_FORMS⟩)
    (tvPART_FORMS : Vals vPARTS itsPART_FORMS.toList)
    (iaLEAST_WIDTH : PySem.W.nsIn K mainGlobals "LEAST_WIDTH" = some (some (.int 2 tILEAST_WIDTH)))
    (iaGREATEST_WIDTH : PySem.W.nsIn K mainGlobals "GREATEST_WIDTH" = some (some (.int 128 tIGREATEST_WIDTH)))
    (iaINT_RANK : PySem.W.nsIn K mainGlobals "INT_RANK" = some (some (.int 2 tIINT_RANK)))
    (iaLONGEST_NAME : PySem.W.nsIn K mainGlobals "LONGEST_NAME" = some (some (.int 8 tILONGEST_NAME)))
    (ra : PySem.W.nsIn K mainGlobals "RANKS" = some (some (.ref qR)))
    (rl : K.lookup qR = some ⟨.type "dict", none, .dict esR nR, #[]⟩)
    (rk : PySem.W.KeysLit w.params esR.toList)
    (r0 : PySem.W.nsIn K qR "char" = some (some (.int 0 tR0)))
    (r1 : PySem.W.nsIn K qR "schar" = some (some (.int 0 tR1)))
    (r2 : PySem.W.nsIn K qR "uchar" = some (some (.int 0 tR2)))
    (r3 : PySem.W.nsIn K qR "short" = some (some (.int 1 tR3)))
    (r4 : PySem.W.nsIn K qR "ushort" = some (some (.int 1 tR4)))
    (r5 : PySem.W.nsIn K qR "int" = some (some (.int 2 tR5)))
    (r6 : PySem.W.nsIn K qR "uint" = some (some (.int 2 tR6)))
    (r7 : PySem.W.nsIn K qR "long" = some (some (.int 3 tR7)))
    (r8 : PySem.W.nsIn K qR "ulong" = some (some (.int 3 tR8)))
    (r9 : PySem.W.nsIn K qR "wide" = some (some (.int 4 tR9)))
    (r10 : PySem.W.nsIn K qR "uwide" = some (some (.int 4 tR10)))
    (wa : PySem.W.nsIn K mainGlobals "ITEMS" = some (some (.ref qI)))
    (wl : K.lookup qI = some ⟨.type "dict", none, .dict esI nI, #[]⟩)
    (wk : PySem.W.KeysLit w.params esI.toList)
    (wz : (qI == sysModules) = false)
    (w0 : PySem.W.nsIn K qI "var" = some (some (.ref wt0)))
    (wl0 : K.lookup wt0 = some ⟨.type "tuple", wd0, .seq wi0 wm0, ws0⟩)
    (wv0 : Vals [.str "name"] wi0.toList)
    (w1 : PySem.W.nsIn K qI "lit" = some (some (.ref wt1)))
    (wl1 : K.lookup wt1 = some ⟨.type "tuple", wd1, .seq wi1 wm1, ws1⟩)
    (wv1 : Vals [.str "number", .str "suffix"] wi1.toList)
    (w2 : PySem.W.nsIn K qI "cast" = some (some (.ref wt2)))
    (wl2 : K.lookup wt2 = some ⟨.type "tuple", wd2, .seq wi2 wm2, ws2⟩)
    (wv2 : Vals [.str "kind", .str "expression"] wi2.toList)
    (w3 : PySem.W.nsIn K qI "neg" = some (some (.ref wt3)))
    (wl3 : K.lookup wt3 = some ⟨.type "tuple", wd3, .seq wi3 wm3, ws3⟩)
    (wv3 : Vals [.str "expression"] wi3.toList)
    (w4 : PySem.W.nsIn K qI "add" = some (some (.ref wt4)))
    (wl4 : K.lookup wt4 = some ⟨.type "tuple", wd4, .seq wi4 wm4, ws4⟩)
    (wv4 : Vals [.str "expression", .str "expression"] wi4.toList)
    (w5 : PySem.W.nsIn K qI "sub" = some (some (.ref wt5)))
    (wl5 : K.lookup wt5 = some ⟨.type "tuple", wd5, .seq wi5 wm5, ws5⟩)
    (wv5 : Vals [.str "expression", .str "expression"] wi5.toList)
    (w6 : PySem.W.nsIn K qI "mul" = some (some (.ref wt6)))
    (wl6 : K.lookup wt6 = some ⟨.type "tuple", wd6, .seq wi6 wm6, ws6⟩)
    (wv6 : Vals [.str "expression", .str "expression"] wi6.toList)
    (w7 : PySem.W.nsIn K qI "shl" = some (some (.ref wt7)))
    (wl7 : K.lookup wt7 = some ⟨.type "tuple", wd7, .seq wi7 wm7, ws7⟩)
    (wv7 : Vals [.str "expression", .str "number"] wi7.toList)
    (w8 : PySem.W.nsIn K qI "shr" = some (some (.ref wt8)))
    (wl8 : K.lookup wt8 = some ⟨.type "tuple", wd8, .seq wi8 wm8, ws8⟩)
    (wv8 : Vals [.str "expression", .str "number"] wi8.toList)
    (w9 : PySem.W.nsIn K qI "if" = some (some (.ref wt9)))
    (wl9 : K.lookup wt9 = some ⟨.type "tuple", wd9, .seq wi9 wm9, ws9⟩)
    (wv9 : Vals [.str "condition", .str "expression", .str "expression"] wi9.toList)
    (w10 : PySem.W.nsIn K qI "less" = some (some (.ref wt10)))
    (wl10 : K.lookup wt10 = some ⟨.type "tuple", wd10, .seq wi10 wm10, ws10⟩)
    (wv10 : Vals [.str "expression", .str "expression"] wi10.toList)
    (w11 : PySem.W.nsIn K qI "most" = some (some (.ref wt11)))
    (wl11 : K.lookup wt11 = some ⟨.type "tuple", wd11, .seq wi11 wm11, ws11⟩)
    (wv11 : Vals [.str "expression", .str "expression"] wi11.toList)
    (w12 : PySem.W.nsIn K qI "not" = some (some (.ref wt12)))
    (wl12 : K.lookup wt12 = some ⟨.type "tuple", wd12, .seq wi12 wm12, ws12⟩)
    (wv12 : Vals [.str "condition"] wi12.toList)
    (w13 : PySem.W.nsIn K qI "and" = some (some (.ref wt13)))
    (wl13 : K.lookup wt13 = some ⟨.type "tuple", wd13, .seq wi13 wm13, ws13⟩)
    (wv13 : Vals [.str "condition", .str "condition"] wi13.toList)
    (w14 : PySem.W.nsIn K qI "or" = some (some (.ref wt14)))
    (wl14 : K.lookup wt14 = some ⟨.type "tuple", wd14, .seq wi14 wm14, ws14⟩)
    (wv14 : Vals [.str "condition", .str "condition"] wi14.toList)
    (la : PySem.W.nsIn K mainGlobals "LETTERS" = some (some (.str sLETTERS tL)))
    (yn : PySem.W.specialIn K (.builtin "object.__class__") "__get__" = some (some (.builtin "getset_descriptor.__get__")))
    (yt : PySem.W.takesIn K (.builtin "object.__class__") = some true)
    (xg0 : PySem.W.nsIn K mainGlobals "NotAdmitted" = some (some (.ref xc0)))
    (xl0 : K.lookup xc0 = some (excClassObj xn0 xq0 xc0 xN0 xbs0 xbm0 true xsn0 xsub0 xab0 xcol0 xdd0 xm00 xm10 xm20 xm30 xm50 "ValueError.__new__"))
    (xr0 : PySem.HandSPX.refsVE xbm0 = true)
    (xsa0 : PySem.W.findIn K (.ref xc0) "__setattr__" = some (some (.builtin "object.__setattr__")))
    (xex0 : PySem.W.subIn K (.ref xc0) (.type "BaseException") = some true)
    (xty0 : PySem.W.typeIn K (.ref xc0) = some (.type "type"))
    (xk0 : PySem.W.keepIn K (.ref xc0) = true)
    (xga0 : PySem.W.findIn K (.ref xc0) "__getattribute__" = some (some (.builtin "BaseException.__getattribute__")))
    (xgt0 : PySem.W.findIn K (.ref xc0) "__getattr__" = some none)
    (xhd0 : PySem.W.hasDictIn K xc0 = true)
    (xcl0 : PySem.W.findIn K (.ref xc0) "__class__" = some (some (.builtin "object.__class__")))
    (xmo0 : PySem.W.mroIn K xc0 (.type "object") = some true)
    (xno0 : PySem.W.findIn K (.ref xc0) "value" = some none)
    (xi0 : PySem.W.findIn K (.ref xc0) "__init__" = some (some (.ref xf0)))
    (xti0 : PySem.W.typeIn K (.ref xf0) = some (.type "function"))
    (xfl0 : K.lookup xf0 = some ⟨ioc0, iod0, .func (PySem.W.fnOf "__init__" "NotAdmitted.__init__" (defArgs i_NotAdmitted) (defBody i_NotAdmitted) (defScope i_NotAdmitted) .none ikV0 idc0 ipm0 ian0 icd0 ict0), isl0⟩)
    (xfc0 : PySem.W.codeIn K icd0 "NotAdmitted.__init__" = true)
    (xfk0 : PySem.W.keepIn K (.ref xf0) = true)
    (xss0 : PySem.W.subIn K (.ref xc0) (.ref xc0) = some true)
    (z_len : PySem.W.nsIn K mainGlobals "len" = some none)
    (z_enumerate : PySem.W.nsIn K mainGlobals "enumerate" = some none)
    (z_all : PySem.W.nsIn K mainGlobals "all" = some none)
    (z_zip : PySem.W.nsIn K mainGlobals "zip" = some none)
    (z_isinstance : PySem.W.nsIn K mainGlobals "isinstance" = some none)
    (z_int : PySem.W.nsIn K mainGlobals "int" = some none)
    (z_tuple : PySem.W.nsIn K mainGlobals "tuple" = some none)
    (z_abs : PySem.W.nsIn K mainGlobals "abs" = some none)
    (z_range : PySem.W.nsIn K mainGlobals "range" = some none)
    (z_min : PySem.W.nsIn K mainGlobals "min" = some none)
    (z_max : PySem.W.nsIn K mainGlobals "max" = some none)
    (z_list : PySem.W.nsIn K mainGlobals "list" = some none)
    (z_repr : PySem.W.nsIn K mainGlobals "repr" = some none) :
    ∃ fd : FuncData, (∀ (s : Shared) (u : Value), BindsTo s fd ⟨[u], []⟩ [("script", u)]) ∧ ∀ base : Heap, K.In base → base.Ns mainGlobals mg → FnG Pr w K mg base CX0 67 fa fd ["script"] (spLaw K) := by
  have e := hfa.symm.trans (PySem.W.mg_of X G a_law)
  cases e
  have D_check_widths := df_mk (st := s_check_widths) (ps := ["widths"]) X G a_check_widths l_check_widths c_check_widths k_check_widths fun _ _ _ _ _ _ us hl => match us, hl with | [_], _ => rfl
  have D_check_model := df_mk (st := s_check_model) (ps := ["model"]) X G a_check_model l_check_model c_check_model k_check_model fun _ _ _ _ _ _ us hl => match us, hl with | [_], _ => rfl
  have D_bits_of := df_mk (st := s_bits_of) (ps := ["model", "kind"]) X G a_bits_of l_bits_of c_bits_of k_bits_of fun _ _ _ _ _ _ us hl => match us, hl with | [_, _], _ => rfl
  have D_is_unsigned := df_mk (st := s_is_unsigned) (ps := ["model", "kind"]) X G a_is_unsigned l_is_unsigned c_is_unsigned k_is_unsigned fun _ _ _ _ _ _ us hl => match us, hl with | [_, _], _ => rfl
  have D_limits_of := df_mk (st := s_limits_of) (ps := ["model", "kind"]) X G a_limits_of l_limits_of c_limits_of k_limits_of fun _ _ _ _ _ _ us hl => match us, hl with | [_, _], _ => rfl
  have D_is_held := df_mk (st := s_is_held) (ps := ["model", "kind", "number"]) X G a_is_held l_is_held c_is_held k_is_held fun _ _ _ _ _ _ us hl => match us, hl with | [_, _, _], _ => rfl
  have D_promoted_kind := df_mk (st := s_promoted_kind) (ps := ["model", "kind"]) X G a_promoted_kind l_promoted_kind c_promoted_kind k_promoted_kind fun _ _ _ _ _ _ us hl => match us, hl with | [_, _], _ => rfl
  have D_common_of_mixed := df_mk (st := s__common_of_mixed) (ps := ["model", "unsigned", "signed"]) X G a_common_of_mixed l_common_of_mixed c_common_of_mixed k_common_of_mixed fun _ _ _ _ _ _ us hl => match us, hl with | [_, _, _], _ => rfl
  have D_common_kind := df_mk (st := s_common_kind) (ps := ["model", "first", "second"]) X G a_common_kind l_common_kind c_common_kind k_common_kind fun _ _ _ _ _ _ us hl => match us, hl with | [_, _, _], _ => rfl
  have D_is_name := df_mk (st := s_is_name) (ps := ["text"]) X G a_is_name l_is_name c_is_name k_is_name fun _ _ _ _ _ _ us hl => match us, hl with | [_], _ => rfl
  have D_check_variables := df_mk (st := s_check_variables) (ps := ["variables"]) X G a_check_variables l_check_variables c_check_variables k_check_variables fun _ _ _ _ _ _ us hl => match us, hl with | [_], _ => rfl
  have D_fits := df_mk (st := s__fits) (ps := ["form", "item", "unused"]) X G a_fits l_fits c_fits k_fits fun _ _ _ _ _ _ us hl => match us, hl with | [_, _, _], _ => rfl
  have D_has_items := df_mk (st := s__has_items) (ps := ["node", "unused"]) X G a_has_items l_has_items c_has_items k_has_items fun _ _ _ _ _ _ us hl => match us, hl with | [_, _], _ => rfl
  have D_has_form := df_mk (st := s__has_form) (ps := ["node", "needed"]) X G a_has_form l_has_form c_has_form k_has_form fun _ _ _ _ _ _ us hl => match us, hl with | [_, _], _ => rfl
  have D_parts := df_mk (st := s_parts) (ps := ["node"]) X G a_parts l_parts c_parts k_parts fun _ _ _ _ _ _ us hl => match us, hl with | [_], _ => rfl
  have D_check_node := df_mk (st := s__check_node) (ps := ["path", "node", "needed", "unused"]) X G a_check_node l_check_node c_check_node k_check_node fun _ _ _ _ _ _ us hl => match us, hl with | [_, _, _, _], _ => rfl
  have D_check_expression := df_mk (st := s_check_expression) (ps := ["variables", "expression"]) X G a_check_expression l_check_expression c_check_expression k_check_expression fun _ _ _ _ _ _ us hl => match us, hl with | [_, _], _ => rfl
  have D_all_nodes := dd_mk (st := s_all_nodes) (ps := ["expression", "path"]) (n := 1) X G a_all_nodes l_all_nodes c_all_nodes k_all_nodes dl_all_nodes rfl (fun _ _ _ _ _ _ _ us its hl hi => match us, its, hl, hi with | [_, _], [_], _, _ => ⟨_, rfl, rfl⟩) (fun _ _ _ _ _ _ _ us its hl hi => match us, its, hl, hi with | [_], [_], _, _ => ⟨_, rfl, rfl⟩)
  have E0_all_nodes : ∀ H, SqT K H e0_all_nodes [] := sqt_mk de_all_nodes .nil (by decide)
  have D_literal_start := df_mk (st := s_literal_start) (ps := ["suffix"]) X G a_literal_start l_literal_start c_literal_start k_literal_start fun _ _ _ _ _ _ us hl => match us, hl with | [_], _ => rfl
  have D_literal_kind := df_mk (st := s_literal_kind) (ps := ["model", "number", "suffix"]) X G a_literal_kind l_literal_kind c_literal_kind k_literal_kind fun _ _ _ _ _ _ us hl => match us, hl with | [_, _, _], _ => rfl
  have D_add_rows := df_mk (st := s__add_rows) (ps := ["rows", "path", "node"]) X G a_add_rows l_add_rows c_add_rows k_add_rows fun _ _ _ _ _ _ us hl => match us, hl with | [_, _, _], _ => rfl
  have D_rows_of := df_mk (st := s_rows_of) (ps := ["expression"]) X G a_rows_of l_rows_of c_rows_of k_rows_of fun _ _ _ _ _ _ us hl => match us, hl with | [_], _ => rfl
  have D_kinds_by_name := df_mk (st := s_kinds_by_name) (ps := ["variables"]) X G a_kinds_by_name l_kinds_by_name c_kinds_by_name k_kinds_by_name fun _ _ _ _ _ _ us hl => match us, hl with | [_], _ => rfl
  have D_own_kind := df_mk (st := s_own_kind) (ps := ["model", "named", "node", "of_parts"]) X G a_own_kind l_own_kind c_own_kind k_own_kind fun _ _ _ _ _ _ us hl => match us, hl with | [_, _, _, _], _ => rfl
  have D_kinds_of := df_mk (st := s_kinds_of) (ps := ["model", "named", "rows"]) X G a_kinds_of l_kinds_of c_kinds_of k_kinds_of fun _ _ _ _ _ _ us hl => match us, hl with | [_, _, _], _ => rfl
  have D_refusal := df_mk (st := s_refusal) (ps := ["model", "variables", "expression"]) X G a_refusal l_refusal c_refusal k_refusal fun _ _ _ _ _ _ us hl => match us, hl with | [_, _, _], _ => rfl
  have D_check_admission := df_mk (st := s_check_admission) (ps := ["model", "variables", "expression"]) X G a_check_admission l_check_admission c_check_admission k_check_admission fun _ _ _ _ _ _ us hl => match us, hl with | [_, _, _], _ => rfl
  have D_type_of := df_mk (st := s_type_of) (ps := ["model", "variables", "expression"]) X G a_type_of l_type_of c_type_of k_type_of fun _ _ _ _ _ _ us hl => match us, hl with | [_, _, _], _ => rfl
  have D_law_rng := df_mk (st := s__law_rng) (ps := ["script"]) X G a_law_rng l_law_rng c_law_rng k_law_rng fun _ _ _ _ _ _ us hl => match us, hl with | [_], _ => rfl
  have D_law_draw := df_mk (st := s__law_draw) (ps := ["rng", "limit"]) X G a_law_draw l_law_draw c_law_draw k_law_draw fun _ _ _ _ _ _ us hl => match us, hl with | [_, _], _ => rfl
  have D_law_labels := df_mk (st := s__law_labels) (ps := []) X G a_law_labels l_law_labels c_law_labels k_law_labels fun _ _ _ _ _ _ us hl => match us, hl with | [], _ => rfl
  have D_law_rank := df_mk (st := s__law_rank) (ps := ["label"]) X G a_law_rank l_law_rank c_law_rank k_law_rank fun _ _ _ _ _ _ us hl => match us, hl with | [_], _ => rfl
  have D_law_is_signed := df_mk (st := s__law_is_signed) (ps := ["scheme", "label"]) X G a_law_is_signed l_law_is_signed c_law_is_signed k_law_is_signed fun _ _ _ _ _ _ us hl => match us, hl with | [_, _], _ => rfl
  have D_law_holds := df_mk (st := s__law_holds) (ps := ["scheme", "label", "far"]) X G a_law_holds l_law_holds c_law_holds k_law_holds fun _ _ _ _ _ _ us hl => match us, hl with | [_, _, _], _ => rfl
  have D_law_of := df_mk (st := s__law_of) (ps := ["rank", "signed"]) X G a_law_of l_law_of c_law_of k_law_of fun _ _ _ _ _ _ us hl => match us, hl with | [_, _], _ => rfl
  have D_law_promoted := df_mk (st := s__law_promoted) (ps := ["scheme", "label"]) X G a_law_promoted l_law_promoted c_law_promoted k_law_promoted fun _ _ _ _ _ _ us hl => match us, hl with | [_, _], _ => rfl
  have D_law_common := df_mk (st := s__law_common) (ps := ["scheme", "one", "two"]) X G a_law_common l_law_common c_law_common k_law_common fun _ _ _ _ _ _ us hl => match us, hl with | [_, _, _], _ => rfl
  have D_law_scheme := df_mk (st := s__law_scheme) (ps := ["rng", "low", "top"]) X G a_law_scheme l_law_scheme c_law_scheme k_law_scheme fun _ _ _ _ _ _ us hl => match us, hl with | [_, _, _], _ => rfl
  have D_law_given := df_mk (st := s__law_given) (ps := ["rng", "many", "top"]) X G a_law_given l_law_given c_law_given k_law_given fun _ _ _ _ _ _ us hl => match us, hl with | [_, _, _], _ => rfl
  have D_law_leaf := df_mk (st := s__law_leaf) (ps := ["rng", "free", "left", "top"]) X G a_law_leaf l_law_leaf c_law_leaf k_law_leaf fun _ _ _ _ _ _ us hl => match us, hl with | [_, _, _, _], _ => rfl
  have D_law_one := df_mk (st := s__law_one) (ps := ["rng", "free", "left", "span", "top"]) X G a_law_one l_law_one c_law_one k_law_one fun _ _ _ _ _ _ us hl => match us, hl with | [_, _, _, _, _], _ => rfl
  have D_law_tree := df_mk (st := s__law_tree) (ps := ["rng", "free", "left", "span", "top"]) X G a_law_tree l_law_tree c_law_tree k_law_tree fun _ _ _ _ _ _ us hl => match us, hl with | [_, _, _, _, _], _ => rfl
  have D_law_test := df_mk (st := s__law_test) (ps := ["rng", "free", "left", "span", "top"]) X G a_law_test l_law_test c_law_test k_law_test fun _ _ _ _ _ _ us hl => match us, hl with | [_, _, _, _, _], _ => rfl
  have D_law_whole := df_mk (st := s__law_whole) (ps := ["rng", "given", "many", "span", "top"]) X G a_law_whole l_law_whole c_law_whole k_law_whole fun _ _ _ _ _ _ us hl => match us, hl with | [_, _, _, _, _], _ => rfl
  have D_law_parts := df_mk (st := s__law_parts) (ps := ["node"]) X G a_law_parts l_law_parts c_law_parts k_law_parts fun _ _ _ _ _ _ us hl => match us, hl with | [_], _ => rfl
  have D_law_literal := df_mk (st := s__law_literal) (ps := ["scheme", "far", "suffix"]) X G a_law_literal l_law_literal c_law_literal k_law_literal fun _ _ _ _ _ _ us hl => match us, hl with | [_, _, _], _ => rfl
  have D_law_label_of := df_mk (st := s__law_label_of) (ps := ["scheme", "labels_here", "node"]) X G a_law_label_of l_law_label_of c_law_label_of k_law_label_of fun _ _ _ _ _ _ us hl => match us, hl with | [_, _, _], _ => rfl
  have D_law_admission := df_mk (st := s__law_admission) (ps := ["scheme", "given", "node", "path"]) X G a_law_admission l_law_admission c_law_admission k_law_admission fun _ _ _ _ _ _ us hl => match us, hl with | [_, _, _, _], _ => rfl
  have D_law_told := df_mk (st := s__law_told) (ps := ["scheme", "given", "node"]) X G a_law_told l_law_told c_law_told k_law_told fun _ _ _ _ _ _ us hl => match us, hl with | [_, _, _], _ => rfl
  have D_law_right := df_mk (st := s__law_right) (ps := ["scheme", "given", "node"]) X G a_law_right l_law_right c_law_right k_law_right fun _ _ _ _ _ _ us hl => match us, hl with | [_, _, _], _ => rfl
  have D_law := df_mk (st := s_law) (ps := ["script"]) X G a_law l_law c_law k_law fun _ _ _ _ _ _ us hl => match us, hl with | [_], _ => rfl
  have T_KINDS : CT K mg "KINDS" vKINDS := ct_mk X G taKINDS tlKINDS tvKINDS (by decide)
  have T_SIGNED : CT K mg "SIGNED" vSIGNED := ct_mk X G taSIGNED tlSIGNED tvSIGNED (by decide)
  have T_UNSIGNED : CT K mg "UNSIGNED" vUNSIGNED := ct_mk X G taUNSIGNED tlUNSIGNED tvUNSIGNED (by decide)
  have T_PLAIN_SIGNS : CT K mg "PLAIN_SIGNS" vPLAIN := ct_mk X G taPLAIN_SIGNS tlPLAIN_SIGNS tvPLAIN_SIGNS (by decide)
  have T_RESERVED : CT K mg "RESERVED" vRESERVED := ct_mk X G taRESERVED tlRESERVED tvRESERVED (by decide)
  have T_SUFFIXES : CT K mg "SUFFIXES" vSUFFIXES := ct_mk X G taSUFFIXES tlSUFFIXES tvSUFFIXES (by decide)
  have T_CONDITIONS : CT K mg "CONDITIONS" vCONDITIONS := ct_mk X G taCONDITIONS tlCONDITIONS tvCONDITIONS (by decide)
  have T_PART_FORMS : CT K mg "PART_FORMS" vPARTS := ct_mk X G taPART_FORMS tlPART_FORMS tvPART_FORMS (by decide)
  have I_LEAST_WIDTH : CI mg "LEAST_WIDTH" 2 := ci_mk X G iaLEAST_WIDTH
  have I_GREATEST_WIDTH : CI mg "GREATEST_WIDTH" 128 := ci_mk X G iaGREATEST_WIDTH
  have I_INT_RANK : CI mg "INT_RANK" 2 := ci_mk X G iaINT_RANK
  have I_LONGEST_NAME : CI mg "LONGEST_NAME" 8 := ci_mk X G iaLONGEST_NAME
  have R_RANKS : CR5 K w mg := ⟨qR, PySem.W.mg_of X G ra, fun k => by
    cases k
    · exact ⟨esR, nR, _, rl, rk, r0, ⟨_, rfl⟩⟩
    · exact ⟨esR, nR, _, rl, rk, r1, ⟨_, rfl⟩⟩
    · exact ⟨esR, nR, _, rl, rk, r2, ⟨_, rfl⟩⟩
    · exact ⟨esR, nR, _, rl, rk, r3, ⟨_, rfl⟩⟩
    · exact ⟨esR, nR, _, rl, rk, r4, ⟨_, rfl⟩⟩
    · exact ⟨esR, nR, _, rl, rk, r5, ⟨_, rfl⟩⟩
    · exact ⟨esR, nR, _, rl, rk, r6, ⟨_, rfl⟩⟩
    · exact ⟨esR, nR, _, rl, rk, r7, ⟨_, rfl⟩⟩
    · exact ⟨esR, nR, _, rl, rk, r8, ⟨_, rfl⟩⟩
    · exact ⟨esR, nR, _, rl, rk, r9, ⟨_, rfl⟩⟩
    · exact ⟨esR, nR, _, rl, rk, r10, ⟨_, rfl⟩⟩⟩
  have T_ITEMS : CIt K w mg := ⟨qI, esI, nI, PySem.W.mg_of X G wa, ⟨wl, wk, wz⟩, fun nd => match nd with
    | .var _ => ⟨wt0, w0, sqt_mk wl0 wv0 (by show 1 ≤ 1000; decide)⟩
    | .lit _ _ => ⟨wt1, w1, sqt_mk wl1 wv1 (by show 2 ≤ 1000; decide)⟩
    | .cast _ _ => ⟨wt2, w2, sqt_mk wl2 wv2 (by show 2 ≤ 1000; decide)⟩
    | .neg _ => ⟨wt3, w3, sqt_mk wl3 wv3 (by show 1 ≤ 1000; decide)⟩
    | .bin .add _ _ => ⟨wt4, w4, sqt_mk wl4 wv4 (by show 2 ≤ 1000; decide)⟩
    | .bin .sub _ _ => ⟨wt5, w5, sqt_mk wl5 wv5 (by show 2 ≤ 1000; decide)⟩
    | .bin .mul _ _ => ⟨wt6, w6, sqt_mk wl6 wv6 (by show 2 ≤ 1000; decide)⟩
    | .sh true _ _ => ⟨wt7, w7, sqt_mk wl7 wv7 (by show 2 ≤ 1000; decide)⟩
    | .sh false _ _ => ⟨wt8, w8, sqt_mk wl8 wv8 (by show 2 ≤ 1000; decide)⟩
    | .ite _ _ _ => ⟨wt9, w9, sqt_mk wl9 wv9 (by show 3 ≤ 1000; decide)⟩
    | .cmp true _ _ => ⟨wt10, w10, sqt_mk wl10 wv10 (by show 2 ≤ 1000; decide)⟩
    | .cmp false _ _ => ⟨wt11, w11, sqt_mk wl11 wv11 (by show 2 ≤ 1000; decide)⟩
    | .nt _ => ⟨wt12, w12, sqt_mk wl12 wv12 (by show 1 ≤ 1000; decide)⟩
    | .lg true _ _ => ⟨wt13, w13, sqt_mk wl13 wv13 (by show 2 ≤ 1000; decide)⟩
    | .lg false _ _ => ⟨wt14, w14, sqt_mk wl14 wv14 (by show 2 ≤ 1000; decide)⟩⟩
  have T_LETTERS : CS mg "LETTERS" sLETTERS := ⟨tL, PySem.W.mg_of X G la⟩
  have Ox0 : OexC K xc0 := ⟨⟨_, _, _, _, _, _, _, _, _, _, _, _, _, _, _, xl0, xr0⟩, xsa0, xex0, xty0, xk0⟩
  have e_NotAdmitted : ExcC K xc0 := ⟨xga0, xgt0, xex0, xhd0, xcl0, yn, yt, xmo0⟩
  have n_NotAdmitted : PySem.W.findIn K (.ref xc0) vVal = some none := xno0
  have g_NotAdmitted : mg "NotAdmitted" = some (.ref xc0) := PySem.W.mg_of X G xg0
  have xx_NotAdmitted : PySem.W.exmOne K (.ref xc0) (.ref xc0) = some true := PySem.W.exm_ref xex0 xhd0 xty0 xss0
  have N_len : mg "len" = none := PySem.W.mg_none_of X G z_len
  have N_enumerate : mg "enumerate" = none := PySem.W.mg_none_of X G z_enumerate
  have N_all : mg "all" = none := PySem.W.mg_none_of X G z_all
  have N_zip : mg "zip" = none := PySem.W.mg_none_of X G z_zip
  have N_isinstance : mg "isinstance" = none := PySem.W.mg_none_of X G z_isinstance
  have N_int : mg "int" = none := PySem.W.mg_none_of X G z_int
  have N_tuple : mg "tuple" = none := PySem.W.mg_none_of X G z_tuple
  have N_abs : mg "abs" = none := PySem.W.mg_none_of X G z_abs
  have N_range : mg "range" = none := PySem.W.mg_none_of X G z_range
  have N_min : mg "min" = none := PySem.W.mg_none_of X G z_min
  have N_max : mg "max" = none := PySem.W.mg_none_of X G z_max
  have N_list : mg "list" = none := PySem.W.mg_none_of X G z_list
  have N_repr : mg "repr" = none := PySem.W.mg_none_of X G z_repr
  refine ⟨PySem.W.fnOf "law" "law" (defArgs s_law) (defBody s_law) (defScope s_law) .none kV_law dc_law pm_law an_law cd_law ct_law, fun s v => .of_eq rfl, fun base _ _ => ?_⟩
  have X_NotAdmitted : Xi Pr w K mg base "NotAdmitted" xc0 := ⟨_, _, ⟨g_NotAdmitted, Ox0, e_NotAdmitted, n_NotAdmitted, xi0, xti0⟩, ok_init_NotAdmitted (fun_mk (st := i_NotAdmitted) xfl0 xfc0 xfk0), (fun_mk (st := i_NotAdmitted) xfl0 xfc0 xfk0).binds fun _ _ _ _ _ _ us hl => match us, hl with | [_, _], _ => rfl⟩
  have C_bits_of := Cl.mk D_bits_of (ok_bits_of (P := Pr) (w := w) (base := base) D_bits_of R_RANKS)
  have C_is_unsigned := Cl.mk D_is_unsigned (ok_is_unsigned (P := Pr) (w := w) (base := base) D_is_unsigned T_UNSIGNED)
  have C_limits_of := Cl.mk D_limits_of (ok_limits_of (P := Pr) (w := w) (base := base) D_limits_of C_bits_of C_is_unsigned)
  have C_is_held := Cl.mk D_is_held (ok_is_held (P := Pr) (w := w) (base := base) D_is_held C_limits_of)
  have C_check_widths := Cl.mk D_check_widths (ok_check_widths (P := Pr) (w := w) (base := base) D_check_widths T_SIGNED I_LEAST_WIDTH I_GREATEST_WIDTH N_len N_enumerate)
  have C_check_model := Cl.mk D_check_model (ok_check_model (P := Pr) (w := w) (base := base) D_check_model C_check_widths T_PLAIN_SIGNS)
  have C_is_name := Cl.mk D_is_name (ok_is_name (P := Pr) (w := w) (base := base) D_is_name T_KINDS T_RESERVED I_LONGEST_NAME T_LETTERS N_len N_all)
  have C_check_variables := Cl.mk D_check_variables (ok_check_variables (P := Pr) (w := w) (base := base) D_check_variables C_is_name T_KINDS N_enumerate)
  have C_fits := Cl.mk D_fits (ok__fits (P := Pr) (w := w) (base := base) D_fits T_SUFFIXES T_KINDS N_isinstance N_int)
  have C_has_items := Cl.mk D_has_items (ok__has_items (P := Pr) (w := w) (base := base) D_has_items T_ITEMS C_fits N_zip N_all)
  have C_has_form := Cl.mk D_has_form (ok__has_form (P := Pr) (w := w) (base := base) D_has_form T_ITEMS T_CONDITIONS N_isinstance N_tuple N_len)
  have C_parts := Cl.mk D_parts (ok_parts (P := Pr) (w := w) (base := base) D_parts T_ITEMS T_PART_FORMS N_zip)
  have C_check_node := Cl.mk D_check_node (rec_ok (c := 2) (sp := spNode K) (fun vs H Q E h => no_node h) (fun d F => step__check_node (P := Pr) (w := w) (base := base) D_check_node (by omega) T_ITEMS T_PART_FORMS C_has_form C_has_items C_parts N_zip N_enumerate (Cl.mk D_check_node F)) 30)
  have C_check_expression := Cl.mk D_check_expression ((ok_check_expression (P := Pr) (w := w) (base := base) (k := 32) D_check_expression C_check_node).mono (show 33 ≤ 34 by decide))
  have F_all_nodes := rec_ok (c := 1) (sp := spAll K) (fun vs H Q E h => no_all h) (fun d F => step_all_nodes (P := Pr) (w := w) (base := base) (k := 1 + d) D_all_nodes (by omega) C_parts N_enumerate (Cl.mkd D_all_nodes F)) 30
  have C_all_nodes := Cd.mk D_all_nodes F_all_nodes
  have C_literal_start := Cl.mk D_literal_start (ok_literal_start (P := Pr) (w := w) (base := base) D_literal_start R_RANKS I_INT_RANK)
  have C_literal_kind := Cl.mk D_literal_kind (ok_literal_kind (P := Pr) (w := w) (base := base) D_literal_kind T_UNSIGNED T_SIGNED C_literal_start C_is_held)
  have C_refusal := Cl.mk D_refusal ((ok_refusal (P := Pr) (w := w) (base := base) (k := 31) D_refusal (by decide) C_is_held C_literal_kind C_all_nodes E0_all_nodes).mono (show 32 ≤ 33 by decide))
  have C_promoted_kind := Cl.mk D_promoted_kind (ok_promoted_kind (P := Pr) (w := w) (base := base) D_promoted_kind R_RANKS I_INT_RANK C_is_unsigned C_bits_of)
  have C_common_of_mixed := Cl.mk D_common_of_mixed (ok__common_of_mixed (P := Pr) (w := w) (base := base) D_common_of_mixed R_RANKS T_UNSIGNED C_bits_of)
  have C_common_kind := Cl.mk D_common_kind (ok_common_kind (P := Pr) (w := w) (base := base) D_common_kind R_RANKS C_promoted_kind C_is_unsigned C_common_of_mixed)
  have C_add_rows := Cl.mk D_add_rows (rec_ok (c := 1) (sp := spAddRows K) (fun vs H Q E h => no_add h) (fun d F => step__add_rows (P := Pr) (w := w) (base := base) (k := 1 + d) D_add_rows (by omega) C_parts N_enumerate N_len (Cl.mk D_add_rows F)) 30)
  have C_rows_of := Cl.mk D_rows_of ((ok_rows_of (P := Pr) (w := w) (base := base) (k := 31) D_rows_of C_add_rows).mono (show 32 ≤ 34 by decide))
  have C_kinds_by_name := Cl.mk D_kinds_by_name (ok_kinds_by_name (P := Pr) (w := w) (base := base) D_kinds_by_name)
  have C_own_kind := Cl.mk D_own_kind (ok_own_kind (P := Pr) (w := w) (base := base) D_own_kind C_literal_kind C_promoted_kind C_common_kind)
  have C_kinds_of := Cl.mk D_kinds_of (ok_kinds_of (P := Pr) (w := w) (base := base) D_kinds_of C_own_kind)
  have C_check_admission := ClX.mk D_check_admission (ok_check_admission (P := Pr) (w := w) (base := base) (k := 33) D_check_admission (by decide) C_refusal X_NotAdmitted)
  have F_type_of := ok_type_of (P := Pr) (w := w) (base := base) (k := 34) D_type_of (by decide) C_check_model C_check_variables C_check_expression C_check_admission T_CONDITIONS C_kinds_of C_kinds_by_name C_rows_of
  have C_type_of := ClX.mk D_type_of F_type_of
  have K_type_of := CkX.mk (ks := ["model", "variables", "expression"]) (gV := id) D_type_of (F_type_of.mono (show 35 ≤ 66 by decide)) id (fun _ _ _ _ _ _ ws hl => match ws, hl with | [_, _, _], _ => rfl) (fun _ b => b)
  have C_law_rng := Cl.mk D_law_rng (ok__law_rng (P := Pr) (w := w) (base := base) D_law_rng N_abs)
  have C_law_draw := Cl.mk D_law_draw (ok__law_draw (P := Pr) (w := w) (base := base) D_law_draw)
  have C_law_labels := Cl.mk D_law_labels (ok__law_labels (P := Pr) (w := w) (base := base) D_law_labels)
  have C_law_rank := Cl.mk D_law_rank (ok__law_rank (P := Pr) (w := w) (base := base) D_law_rank C_law_labels)
  have C_law_is_signed := Cl.mk D_law_is_signed (ok__law_is_signed (P := Pr) (w := w) (base := base) D_law_is_signed)
  have C_law_holds := Cl.mk D_law_holds (ok__law_holds (P := Pr) (w := w) (base := base) D_law_holds C_law_rank C_law_is_signed)
  have C_law_of := Cl.mk D_law_of (ok__law_of (P := Pr) (w := w) (base := base) D_law_of N_int)
  have C_law_promoted := Cl.mk D_law_promoted (ok__law_promoted (P := Pr) (w := w) (base := base) D_law_promoted C_law_rank C_law_is_signed)
  have C_law_common := Cl.mk D_law_common (ok__law_common (P := Pr) (w := w) (base := base) D_law_common C_law_rank C_law_is_signed C_law_promoted C_law_of N_max)
  have C_law_scheme := Cl.mk D_law_scheme (ok__law_scheme (P := Pr) (w := w) (base := base) D_law_scheme C_law_draw N_range N_min N_tuple)
  have C_law_given := Cl.mk D_law_given (ok__law_given (P := Pr) (w := w) (base := base) D_law_given C_law_draw N_range)
  have C_law_leaf := Cl.mk D_law_leaf (ok__law_leaf (P := Pr) (w := w) (base := base) D_law_leaf C_law_draw N_len)
  have F_law_trees := trees_ok (P := Pr) (w := w) (base := base) D_law_one D_law_tree D_law_test C_law_draw C_law_leaf 24
  have C_law_whole := Cl.mk D_law_whole ((ok__law_whole (P := Pr) (w := w) (base := base) (k := 50) D_law_whole (by decide) C_law_draw (Cl.mk D_law_tree F_law_trees.1) (Cl.mk D_law_test F_law_trees.2) N_len N_min).mono (show 51 ≤ 66 by decide))
  have C_law_parts := Cl.mk D_law_parts (ok__law_parts (P := Pr) (w := w) (base := base) D_law_parts N_int N_list)
  have C_law_literal := Cl.mk D_law_literal (ok__law_literal (P := Pr) (w := w) (base := base) D_law_literal C_law_holds C_law_of N_int)
  have F_law_admission := rec_ok (c := 4) (sp := spAdm K) (fun vs H Q E h => no_adm h) (fun d F => step__law_admission (P := Pr) (w := w) (base := base) D_law_admission (by omega) C_law_holds C_law_literal C_law_parts N_enumerate (Cl.mk D_law_admission F)) 30
  have F_law_label_of := rec_ok (c := 4) (sp := fun d => PV (preLab K d)) (fun vs H Q E h => no_lab h) (fun d F => step__law_label_of (P := Pr) (w := w) (base := base) D_law_label_of (by omega) C_law_literal C_law_promoted C_law_common N_len (Cl.mk D_law_label_of F)) 30
  have F_law_told := ok__law_told (P := Pr) (w := w) (base := base) (k := 35) D_law_told g_NotAdmitted xx_NotAdmitted e_NotAdmitted n_NotAdmitted C_type_of
  have C_law_right := Cl.mk D_law_right (rec_ok (c := 36) (sp := fun d => PV (preRight K d)) (fun vs H Q E h => no_right h) (fun d F => step__law_right (P := Pr) (w := w) (base := base) D_law_right (by omega) (Cl.mk D_law_admission (F_law_admission.mono (show 4 + 30 ≤ 36 + d by omega))) (Cl.mk D_law_label_of (F_law_label_of.mono (show 4 + 30 ≤ 36 + d by omega))) (Cl.mk D_law_told (F_law_told.mono (show 36 ≤ 36 + d by omega))) C_law_parts N_repr (Cl.mk D_law_right F)) 30)
  exact ok_law (P := Pr) (w := w) (base := base) (kk := 66) D_law (by decide) C_law_rng C_law_draw C_law_scheme C_law_given C_law_whole C_law_holds C_law_right K_type_of N_range N_min N_len N_repr
end Cf
open PySem PySem.W PyProof.Rows
set_option maxHeartbeats 0 in
theorem PySem.Challenge.cw_castforms_k09_types_of_expressions_holds : PySem.Challenge.rw_castforms_k09_types_of_expressions.Holds := by
  w_on; o_law; k_head; (case hw => w_witness2)
  k_fill
  refine Cf.walkG (l := PySem.Challenge.rw_castforms_k09_types_of_expressions) (n := 63) (k := 67) (x := "script") (CX := fun _ => L2.CX0) (sp := fun w => Cf.spLaw _) rfl (by decide) rfl ⟨rfl, by decide, by decide⟩ (fun w h Y => PySem.W.kIn_of Y) ?F (fun _ _ a ns hl _ hS => ⟨a, ns, rfl, hS, hl, fun _ => rfl⟩) (fun _ _ _ _ _ h => h)
  case F =>
    intro w mg fa h KX G hmg
    refine' Cf.all_mk (w := w) KX G hmg ?a_check_widths ?l_check_widths ?c_check_widths ?k_check_widths ?a_check_model ?l_check_model ?c_check_model ?k_check_model ?a_bits_of ?l_bits_of ?c_bits_of ?k_bits_of ?a_is_unsigned ?l_is_unsigned ?c_is_unsigned ?k_is_unsigned ?a_limits_of ?l_limits_of ?c_limits_of ?k_limits_of ?a_is_held ?l_is_held ?c_is_held ?k_is_held ?a_promoted_kind ?l_promoted_kind ?c_promoted_kind ?k_promoted_kind ?a_common_of_mixed ?l_common_of_mixed ?c_common_of_mixed ?k_common_of_mixed ?a_common_kind ?l_common_kind ?c_common_kind ?k_common_kind ?a_is_name ?l_is_name ?c_is_name ?k_is_name ?a_check_variables ?l_check_variables ?c_check_variables ?k_check_variables ?a_fits ?l_fits ?c_fits ?k_fits ?a_has_items ?l_has_items ?c_has_items ?k_has_items ?a_has_form ?l_has_form ?c_has_form ?k_has_form ?a_parts ?l_parts ?c_parts ?k_parts ?a_check_node ?l_check_node ?c_check_node ?k_check_node ?a_check_expression ?l_check_expression ?c_check_expression ?k_check_expression ?a_all_nodes ?l_all_nodes ?c_all_nodes ?k_all_nodes ?dl_all_nodes ?de_all_nodes ?a_literal_start ?l_literal_start ?c_literal_start ?k_literal_start ?a_literal_kind ?l_literal_kind ?c_literal_kind ?k_literal_kind ?a_add_rows ?l_add_rows ?c_add_rows ?k_add_rows ?a_rows_of ?l_rows_of ?c_rows_of ?k_rows_of ?a_kinds_by_name ?l_kinds_by_name ?c_kinds_by_name ?k_kinds_by_name ?a_own_kind ?l_own_kind ?c_own_kind ?k_own_kind ?a_kinds_of ?l_kinds_of ?c_kinds_of ?k_kinds_of ?a_refusal ?l_refusal ?c_refusal ?k_refusal ?a_check_admission ?l_check_admission ?c_check_admission ?k_check_admission ?a_type_of ?l_type_of ?c_type_of ?k_type_of ?a_law_rng ?l_law_rng ?c_law_rng ?k_law_rng ?a_law_draw ?l_law_draw ?c_law_draw ?k_law_draw ?a_law_labels ?l_law_labels ?c_law_labels ?k_law_labels ?a_law_rank ?l_law_rank ?c_law_rank ?k_law_rank ?a_law_is_signed ?l_law_is_signed ?c_law_is_signed ?k_law_is_signed ?a_law_holds ?l_law_holds ?c_law_holds ?k_law_holds ?a_law_of ?l_law_of ?c_law_of ?k_law_of ?a_law_promoted ?l_law_promoted ?c_law_promoted ?k_law_promoted ?a_law_common ?l_law_common ?c_law_common ?k_law_common ?a_law_scheme ?l_law_scheme ?c_law_scheme ?k_law_scheme ?a_law_given ?l_law_given ?c_law_given ?k_law_given ?a_law_leaf ?l_law_leaf ?c_law_leaf ?k_law_leaf ?a_law_one ?l_law_one ?c_law_one ?k_law_one ?a_law_tree ?l_law_tree ?c_law_tree ?k_law_tree ?a_law_test ?l_law_test ?c_law_test ?k_law_test ?a_law_whole ?l_law_whole ?c_law_whole ?k_law_whole ?a_law_parts ?l_law_parts ?c_law_parts ?k_law_parts ?a_law_literal ?l_law_literal ?c_law_literal ?k_law_literal ?a_law_label_of ?l_law_label_of ?c_law_label_of ?k_law_label_of ?a_law_admission ?l_law_admission ?c_law_admission ?k_law_admission ?a_law_told ?l_law_told ?c_law_told ?k_law_told ?a_law_right ?l_law_right ?c_law_right ?k_law_right ?a_law ?l_law ?c_law ?k_law ?taKINDS ?tlKINDS ?tvKINDS ?taSIGNED ?tlSIGNED ?tvSIGNED ?taUNSIGNED ?tlUNSIGNED ?tvUNSIGNED ?taPLAIN_SIGNS ?tlPLAIN_SIGNS ?tvPLAIN_SIGNS ?taRESERVED ?tlRESERVED ?tvRESERVED ?taSUFFIXES ?tlSUFFIXES ?tvSUFFIXES ?taCONDITIONS ?tlCONDITIONS ?tvCONDITIONS ?taPART_FORMS ?tlPART_FORMS ?tvPART_FORMS ?iaLEAST_WIDTH ?iaGREATEST_WIDTH ?iaINT_RANK ?iaLONGEST_NAME ?ra ?rl ?rk ?r0 ?r1 ?r2 ?r3 ?r4 ?r5 ?r6 ?r7 ?r8 ?r9 ?r10 ?wa ?wl ?wk ?wz ?w0 ?wl0 ?wv0 ?w1 ?wl1 ?wv1 ?w2 ?wl2 ?wv2 ?w3 ?wl3 ?wv3 ?w4 ?wl4 ?wv4 ?w5 ?wl5 ?wv5 ?w6 ?wl6 ?wv6 ?w7 ?wl7 ?wv7 ?w8 ?wl8 ?wv8 ?w9 ?wl9 ?wv9 ?w10 ?wl10 ?wv10 ?w11 ?wl11 ?wv11 ?w12 ?wl12 ?wv12 ?w13 ?wl13 ?wv13 ?w14 ?wl14 ?wv14 ?la ?yn ?yt ?xg0 ?xl0 ?xr0 ?xsa0 ?xex0 ?xty0 ?xk0 ?xga0 ?xgt0 ?xhd0 ?xcl0 ?xmo0 ?xno0 ?xi0 ?xti0 ?xfl0 ?xfc0 ?xfk0 ?xss0 ?z_len ?z_enumerate ?z_all ?z_zip ?z_isinstance ?z_int ?z_tuple ?z_abs ?z_range ?z_min ?z_max ?z_list ?z_repr
    (case a_check_widths => k_is)
    (case l_check_widths => k_is)
    (case c_check_widths => k_is)
    (case k_check_widths => k_is)
    (case a_check_model => k_is)
    (case l_check_model => k_is)
    (case c_check_model => k_is)
    (case k_check_model => k_is)
    (case a_bits_of => k_is)
    (case l_bits_of => k_is)
    (case c_bits_of => k_is)
    (case k_bits_of => k_is)
    (case a_is_unsigned => k_is)
    (case l_is_unsigned => k_is)
    (case c_is_unsigned => k_is)
    (case k_is_unsigned => k_is)
    (case a_limits_of => k_is)
    (case l_limits_of => k_is)
    (case c_limits_of => k_is)
    (case k_limits_of => k_is)
    (case a_is_held => k_is)
    (case l_is_held => k_is)
    (case c_is_held => k_is)
    (case k_is_held => k_is)
    (case a_promoted_kind => k_is)
    (case l_promoted_kind => k_is)
    (case c_promoted_kind => k_is)
    (case k_promoted_kind => k_is)
    (case a_common_of_mixed => k_is)
    (case l_common_of_mixed => k_is)
    (case c_common_of_mixed => k_is)
    (case k_common_of_mixed => k_is)
    (case a_common_kind => k_is)
    (case l_common_kind => k_is)
    (case c_common_kind => k_is)
    (case k_common_kind => k_is)
    (case a_is_name => k_is)
    (case l_is_name => k_is)
    (case c_is_name => k_is)
    (case k_is_name => k_is)
    (case a_check_variables => k_is)
    (case l_check_variables => k_is)
    (case c_check_variables => k_is)
    (case k_check_variables => k_is)
    (case a_fits => k_is)
    (case l_fits => k_is)
    (case c_fits => k_is)
    (case k_fits => k_is)
    (case a_has_items => k_is)
    (case l_has_items => k_is)
    (case c_has_items => k_is)
    (case k_has_items => k_is)
    (case a_has_form => k_is)
    (case l_has_form => k_is)
    (case c_has_form => k_is)
    (case k_has_form => k_is)
    (case a_parts => k_is)
    (case l_parts => k_is)
    (case c_parts => k_is)
    (case k_parts => k_is)
    (case a_check_node => k_is)
    (case l_check_node => k_is)
    (case c_check_node => k_is)
    (case k_check_node => k_is)
    (case a_check_expression => k_is)
    (case l_check_expression => k_is)
    (case c_check_expression => k_is)
    (case k_check_expression => k_is)
    (case a_all_nodes => k_is)
    (case l_all_nodes => k_is)
    (case c_all_nodes => k_is)
    (case k_all_nodes => k_is)
    (case dl_all_nodes => k_is)
    (case de_all_nodes => k_is)
    (case a_literal_start => k_is)
    (case l_literal_start => k_is)
    (case c_literal_start => k_is)
    (case k_literal_start => k_is)
    (case a_literal_kind => k_is)
    (case l_literal_kind => k_is)
    (case c_literal_kind => k_is)
    (case k_literal_kind => k_is)
    (case a_add_rows => k_is)
    (case l_add_rows => k_is)
    (case c_add_rows => k_is)
    (case k_add_rows => k_is)
    (case a_rows_of => k_is)
    (case l_rows_of => k_is)
    (case c_rows_of => k_is)
    (case k_rows_of => k_is)
    (case a_kinds_by_name => k_is)
    (case l_kinds_by_name => k_is)
    (case c_kinds_by_name => k_is)
    (case k_kinds_by_name => k_is)
    (case a_own_kind => k_is)
    (case l_own_kind => k_is)
    (case c_own_kind => k_is)
    (case k_own_kind => k_is)
    (case a_kinds_of => k_is)
    (case l_kinds_of => k_is)
    (case c_kinds_of => k_is)
    (case k_kinds_of => k_is)
    (case a_refusal => k_is)
    (case l_refusal => k_is)
    (case c_refusal => k_is)
    (case k_refusal => k_is)
    (case a_check_admission => k_is)
    (case l_check_admission => k_is)
    (case c_check_admission => k_is)
    (case k_check_admission => k_is)
    (case a_type_of => k_is)
    (case l_type_of => k_is)
    (case c_type_of => k_is)
    (case k_type_of => k_is)
    (case a_law_rng => k_is)
    (case l_law_rng => k_is)
    (case c_law_rng => k_is)
    (case k_law_rng => k_is)
    (case a_law_draw => k_is)
    (case l_law_draw => k_is)
    (case c_law_draw => k_is)
    (case k_law_draw => k_is)
    (case a_law_labels => k_is)
    (case l_law_labels => k_is)
    (case c_law_labels => k_is)
    (case k_law_labels => k_is)
    (case a_law_rank => k_is)
    (case l_law_rank => k_is)
    (case c_law_rank => k_is)
    (case k_law_rank => k_is)
    (case a_law_is_signed => k_is)
    (case l_law_is_signed => k_is)
    (case c_law_is_signed => k_is)
    (case k_law_is_signed => k_is)
    (case a_law_holds => k_is)
    (case l_law_holds => k_is)
    (case c_law_holds => k_is)
    (case k_law_holds => k_is)
    (case a_law_of => k_is)
    (case l_law_of => k_is)
    (case c_law_of => k_is)
    (case k_law_of => k_is)
    (case a_law_promoted => k_is)
    (case l_law_promoted => k_is)
    (case c_law_promoted => k_is)
    (case k_law_promoted => k_is)
    (case a_law_common => k_is)
    (case l_law_common => k_is)
    (case c_law_common => k_is)
    (case k_law_common => k_is)
    (case a_law_scheme => k_is)
    (case l_law_scheme => k_is)
    (case c_law_scheme => k_is)
    (case k_law_scheme => k_is)
    (case a_law_given => k_is)
    (case l_law_given => k_is)
    (case c_law_given => k_is)
    (case k_law_given => k_is)
    (case a_law_leaf => k_is)
    (case l_law_leaf => k_is)
    (case c_law_leaf => k_is)
    (case k_law_leaf => k_is)
    (case a_law_one => k_is)
    (case l_law_one => k_is)
    (case c_law_one => k_is)
    (case k_law_one => k_is)
    (case a_law_tree => k_is)
    (case l_law_tree => k_is)
    (case c_law_tree => k_is)
    (case k_law_tree => k_is)
    (case a_law_test => k_is)
    (case l_law_test => k_is)
    (case c_law_test => k_is)
    (case k_law_test => k_is)
    (case a_law_whole => k_is)
    (case l_law_whole => k_is)
    (case c_law_whole => k_is)
    (case k_law_whole => k_is)
    (case a_law_parts => k_is)
    (case l_law_parts => k_is)
    (case c_law_parts => k_is)
    (case k_law_parts => k_is)
    (case a_law_literal => k_is)
    (case l_law_literal => k_is)
    (case c_law_literal => k_is)
    (case k_law_literal => k_is)
    (case a_law_label_of => k_is)
    (case l_law_label_of => k_is)
    (case c_law_label_of => k_is)
    (case k_law_label_of => k_is)
    (case a_law_admission => k_is)
    (case l_law_admission => k_is)
    (case c_law_admission => k_is)
    (case k_law_admission => k_is)
    (case a_law_told => k_is)
    (case l_law_told => k_is)
    (case c_law_told => k_is)
    (case k_law_told => k_is)
    (case a_law_right => k_is)
    (case l_law_right => k_is)
    (case c_law_right => k_is)
    (case k_law_right => k_is)
    (case a_law => k_is)
    (case l_law => k_is)
    (case c_law => k_is)
    (case k_law => k_is)
    (case taKINDS => k_is)
    (case tlKINDS => k_is)
    (case tvKINDS => repeat (first | exact L2.Paired.nil | exact Paired.nil | refine Paired.cons ⟨_, rfl⟩ ?_))
    (case taSIGNED => k_is)
    (case tlSIGNED => k_is)
    (case tvSIGNED => repeat (first | exact L2.Paired.nil | exact Paired.nil | refine Paired.cons ⟨_, rfl⟩ ?_))
    (case taUNSIGNED => k_is)
    (case tlUNSIGNED => k_is)
    (case tvUNSIGNED => repeat (first | exact L2.Paired.nil | exact Paired.nil | refine Paired.cons ⟨_, rfl⟩ ?_))
    (case taPLAIN_SIGNS => k_is)
    (case tlPLAIN_SIGNS => k_is)
    (case tvPLAIN_SIGNS => repeat (first | exact L2.Paired.nil | exact Paired.nil | refine Paired.cons ⟨_, rfl⟩ ?_))
    (case taRESERVED => k_is)
    (case tlRESERVED => k_is)
    (case tvRESERVED => repeat (first | exact L2.Paired.nil | exact Paired.nil | refine Paired.cons ⟨_, rfl⟩ ?_))
    (case taSUFFIXES => k_is)
    (case tlSUFFIXES => k_is)
    (case tvSUFFIXES => repeat (first | exact L2.Paired.nil | exact Paired.nil | refine Paired.cons ⟨_, rfl⟩ ?_))
    (case taCONDITIONS => k_is)
    (case tlCONDITIONS => k_is)
    (case tvCONDITIONS => repeat (first | exact L2.Paired.nil | exact Paired.nil | refine Paired.cons ⟨_, rfl⟩ ?_))
    (case taPART_FORMS => k_is)
    (case tlPART_FORMS => k_is)
    (case tvPART_FORMS => repeat (first | exact L2.Paired.nil | exact Paired.nil | refine Paired.cons ⟨_, rfl⟩ ?_))
    (case iaLEAST_WIDTH => k_is)
    (case iaGREATEST_WIDTH => k_is)
    (case iaINT_RANK => k_is)
    (case iaLONGEST_NAME => k_is)
    (case ra => k_is)
    (case rl => k_is)
    (case rk => exact ⟨⟨_, _, rfl, rfl⟩, ⟨⟨_, _, rfl, rfl⟩, ⟨⟨_, _, rfl, rfl⟩, ⟨⟨_, _, rfl, rfl⟩, ⟨⟨_, _, rfl, rfl⟩, ⟨⟨_, _, rfl, rfl⟩, ⟨⟨_, _, rfl, rfl⟩, ⟨⟨_, _, rfl, rfl⟩, ⟨⟨_, _, rfl, rfl⟩, ⟨⟨_, _, rfl, rfl⟩, ⟨⟨_, _, rfl, rfl⟩, trivial⟩⟩⟩⟩⟩⟩⟩⟩⟩⟩⟩)
    (case r0 => k_is)
    (case r1 => k_is)
    (case r2 => k_is)
    (case r3 => k_is)
    (case r4 => k_is)
    (case r5 => k_is)
    (case r6 => k_is)
    (case r7 => k_is)
    (case r8 => k_is)
    (case r9 => k_is)
    (case r10 => k_is)
    (case wa => k_is)
    (case wl => k_is)
    (case wk => exact ⟨⟨_, _, rfl, rfl⟩, ⟨⟨_, _, rfl, rfl⟩, ⟨⟨_, _, rfl, rfl⟩, ⟨⟨_, _, rfl, rfl⟩, ⟨⟨_, _, rfl, rfl⟩, ⟨⟨_, _, rfl, rfl⟩, ⟨⟨_, _, rfl, rfl⟩, ⟨⟨_, _, rfl, rfl⟩, ⟨⟨_, _, rfl, rfl⟩, ⟨⟨_, _, rfl, rfl⟩, ⟨⟨_, _, rfl, rfl⟩, ⟨⟨_, _, rfl, rfl⟩, ⟨⟨_, _, rfl, rfl⟩, ⟨⟨_, _, rfl, rfl⟩, ⟨⟨_, _, rfl, rfl⟩, trivial⟩⟩⟩⟩⟩⟩⟩⟩⟩⟩⟩⟩⟩⟩⟩)
    (case wz => first | rfl | decide +kernel)
    (case w0 => k_is)
    (case wl0 => k_is)
    (case wv0 => repeat (first | exact L2.Paired.nil | exact Paired.nil | refine Paired.cons ⟨_, rfl⟩ ?_))
    (case w1 => k_is)
    (case wl1 => k_is)
    (case wv1 => repeat (first | exact L2.Paired.nil | exact Paired.nil | refine Paired.cons ⟨_, rfl⟩ ?_))
    (case w2 => k_is)
    (case wl2 => k_is)
    (case wv2 => repeat (first | exact L2.Paired.nil | exact Paired.nil | refine Paired.cons ⟨_, rfl⟩ ?_))
    (case w3 => k_is)
    (case wl3 => k_is)
    (case wv3 => repeat (first | exact L2.Paired.nil | exact Paired.nil | refine Paired.cons ⟨_, rfl⟩ ?_))
    (case w4 => k_is)
    (case wl4 => k_is)
    (case wv4 => repeat (first | exact L2.Paired.nil | exact Paired.nil | refine Paired.cons ⟨_, rfl⟩ ?_))
    (case w5 => k_is)
    (case wl5 => k_is)
    (case wv5 => repeat (first | exact L2.Paired.nil | exact Paired.nil | refine Paired.cons ⟨_, rfl⟩ ?_))
    (case w6 => k_is)
    (case wl6 => k_is)
    (case wv6 => repeat (first | exact L2.Paired.nil | exact Paired.nil | refine Paired.cons ⟨_, rfl⟩ ?_))
    (case w7 => k_is)
    (case wl7 => k_is)
    (case wv7 => repeat (first | exact L2.Paired.nil | exact Paired.nil | refine Paired.cons ⟨_, rfl⟩ ?_))
    (case w8 => k_is)
    (case wl8 => k_is)
    (case wv8 => repeat (first | exact L2.Paired.nil | exact Paired.nil | refine Paired.cons ⟨_, rfl⟩ ?_))
    (case w9 => k_is)
    (case wl9 => k_is)
    (case wv9 => repeat (first | exact L2.Paired.nil | exact Paired.nil | refine Paired.cons ⟨_, rfl⟩ ?_))
    (case w10 => k_is)
    (case wl10 => k_is)
    (case wv10 => repeat (first | exact L2.Paired.nil | exact Paired.nil | refine Paired.cons ⟨_, rfl⟩ ?_))
    (case w11 => k_is)
    (case wl11 => k_is)
    (case wv11 => repeat (first | exact L2.Paired.nil | exact Paired.nil | refine Paired.cons ⟨_, rfl⟩ ?_))
    (case w12 => k_is)
    (case wl12 => k_is)
    (case wv12 => repeat (first | exact L2.Paired.nil | exact Paired.nil | refine Paired.cons ⟨_, rfl⟩ ?_))
    (case w13 => k_is)
    (case wl13 => k_is)
    (case wv13 => repeat (first | exact L2.Paired.nil | exact Paired.nil | refine Paired.cons ⟨_, rfl⟩ ?_))
    (case w14 => k_is)
    (case wl14 => k_is)
    (case wv14 => repeat (first | exact L2.Paired.nil | exact Paired.nil | refine Paired.cons ⟨_, rfl⟩ ?_))
    (case la => k_is)
    (case yn => k_is)
    (case yt => k_is)
    (case xg0 => k_is)
    (case xl0 => k_is)
    (case xr0 => first | rfl | decide +kernel)
    (case xsa0 => k_is)
    (case xex0 => k_is)
    (case xty0 => k_is)
    (case xk0 => k_is)
    (case xga0 => k_is)
    (case xgt0 => k_is)
    (case xhd0 => k_is)
    (case xcl0 => k_is)
    (case xmo0 => k_is)
    (case xno0 => k_is)
    (case xi0 => k_is)
    (case xti0 => k_is)
    (case xfl0 => k_is)
    (case xfc0 => k_is)
    (case xfk0 => k_is)
    (case xss0 => k_is)
    (case z_len => k_is)
    (case z_enumerate => k_is)
    (case z_all => k_is)
    (case z_zip => k_is)
    (case z_isinstance => k_is)
    (case z_int => k_is)
    (case z_tuple => k_is)
    (case z_abs => k_is)
    (case z_range => k_is)
    (case z_min => k_is)
    (case z_max => k_is)
    (case z_list => k_is)
    (case z_repr => k_is)
