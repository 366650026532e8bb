import PyProof.Rows.All
import Wide.All
import OpenK.AllK
import Wide.FinOn
import HandS.Base
import HandS.Call
import HandS.Comp
import HandS.Deep
import HandS.Dict
import HandS.DictEq
import HandS.Ends
import HandS.Evl
import HandS.IsInst
import HandS.Iter
import HandS.List
import HandS.More
import HandS.NoneIn
import HandS.SortInts
import HandS.Style
import HandS.Wide
import HandS.Words
import KE.GoesEnum
import PyProof.ReprLen
import PyProof.ReprRoads
import PySem.Challenge.RW_castforms_k44_mixed_comparisons_by_tryin
set_option Elab.async false
set_option linter.all false
set_option exponentiation.threshold 20000
set_option maxRecDepth 100000
set_option maxHeartbeats 8000000
namespace Cf
open PySem PySem.Spec PyProof.Rows L2

/-! ## defs that know that no repr is under way (guards) -/
structure FnG (P : Program) (w : World) (K : PySem.W.Frag) (mg : Str → Option Value) (base : Heap) (CX : CXT) (k : Nat) (f : Addr)
    (fd : FuncData) (ps : List Str) (sp : Sp) : Prop where
  len : ∀ vs H Q E, sp vs H Q E → vs.length = ps.length
  run : ∀ (A : Around) (outer : List Env) (s : Shared) (H : Hp) (args : Args) (us : List Value) (vs : List V) (Q : VK) (E : XK),
    A.guards = some [] → Room k A → Env0 P w K mg base A outer s H → BindsTo s fd args (ps.zip us) → Vals vs us → sp vs H Q E →
    codeAny (model P w) A (.call (.ref f) args) (CR CX outer P w H s Q E) s
section
variable {P : Program} {w : World} {K : PySem.W.Frag} {mg : Str → Option Value} {base : Heap} {CX : CXT}
theorem FnG.of {k : Nat} {f : Addr} {fd : FuncData} {ps : List Str} {sp : Sp} (F : FnOk P w K mg base CX k f fd ps sp) : FnG P w K mg base CX k f fd ps sp :=
  ⟨F.len, fun A outer s H args us vs Q E _ => F.run A outer s H args us vs Q E⟩
theorem FnG.mono {j k : Nat} {f : Addr} {fd : FuncData} {ps : List Str} {sp : Sp} (F : FnG P w K mg base CX j f fd ps sp) (h : j ≤ k) : FnG P w K mg base CX k f fd ps sp :=
  ⟨F.len, fun A outer s H args us vs Q E hg hr => F.run A outer s H args us vs Q E hg (hr.mono h)⟩
theorem FnG.imp {k : Nat} {f : Addr} {fd : FuncData} {ps : List Str} {sp sp2 : Sp} (F : FnG P w K mg base CX k f fd ps sp)
    (h : ∀ vs H Q E, sp2 vs H Q E → sp vs H Q E) : FnG P w K mg base CX k f fd ps sp2 :=
  ⟨fun vs H Q E q => F.len vs H Q E (h _ _ _ _ q), fun A outer s H args us vs Q E hg hr he hb hv hs => F.run A outer s H args us vs Q E hg hr he hb hv (h _ _ _ _ hs)⟩
end

section
variable {X : Cx} {CX : CXT} {k : Nat} {f : Addr} {fd : FuncData} {ps ks : List Str} {sp : Sp} {dvs : List V} {ds : List Value} {E : XK} {x : Str}
  {p pos : Pos} {e : Expr} {es : List Expr} {kws : List Keyword} {t tk : TA} {g : List Value → List Value → List Value} {gV : List V → List V → List V}
  {pins : List (Addr × Obj)} {σ : L2.St} {H : Hp} {s : Shared} {Q : VK}
/-- how a call's result is handed on -/
theorem ends_call {r : Result} {s' : Shared} (I : Inv X pins σ H s) (hx : Passes CX X E) (hq : CR CX X.stack X.prog X.w H s Q E r s') :
    match r with | .ok (.ret u) => EP X pins σ Q u s' | .ok _ => False | .error er => X.xe er s' := by
  match r, hq with
  | .error er, hq => exact hx pins σ H s er s' I hq
  | .ok (.ret u), hq => exact I.after hq
theorem run_g {us : List Value} {vs : List V} (F : FnG X.prog X.w X.K X.mg X.base CX k f fd ps sp) (hG : X.A.guards = some []) (hr : Room k X.A)
    (hb : Binds X.K fd ps ds) (hd : Vals dvs ds) (hx : Passes CX X E) (I : Inv X pins σ H s) (rv : Vals vs us) (hs : sp (vs ++ dvs) H Q E) :
    wpAny (model X.prog X.w) X.A (call (.ref f) us) (EP X pins σ Q) X.xe s := by
  have rr : Vals (vs ++ dvs) (us ++ ds) := rv.append hd
  have el : (us ++ ds).length = ps.length := (rr.length).symm.trans (F.len _ _ _ _ hs)
  refine wpAny_call (codeAny_mono (F.run X.A X.stack s H ⟨us, []⟩ (us ++ ds) (vs ++ dvs) Q E hG hr I.env0 (hb s us I.kIn el) rr hs) fun r s' q => ?_)
  have q2 := ends_call I hx q
  revert q2
  match r with
  | .error er => exact id
  | .ok (.ret u) => exact id
  | .ok .next => exact False.elim
  | .ok .brk => exact False.elim
  | .ok .cont => exact False.elim
theorem pe_g (F : FnG X.prog X.w X.K X.mg X.base CX k f fd ps sp) (hG : X.A.guards = some []) (hr : Room k X.A) (hg : Gl X x) (hm : X.mg x = some (.ref f))
    (hk : PySem.W.keepIn X.K (.ref f) = true) (hb : Binds X.K fd ps ds) (hd : Vals dvs ds) (hx : Passes CX X E) (ha : PA X (e :: es) t)
    (hdb : (x == ("__debug__" : Str)) = false := by decide)
    (he : starEach (e :: es) X.env = (false, eval e X.env) :: starEach es X.env := by rfl)
    (hpl : (backTo pos (starEach es X.env)).any (·.1) = false := by rfl) : PE X (.Call (.Name x p) (e :: es) [] pos) (tCall sp dvs E t) := by
  constructor
  intro pins s σ H Q I h
  refine wpAny_Call_Name_kw (ld_glob I hg hm ?_ hdb)
  have step := thn (ha.run pos pins s σ H _ I h) (Q' := fun us s1 => X.K.In s1.heap ∧ wpAny (model X.prog X.w) X.A (call (.ref f) us) (EP X pins σ Q) X.xe s1) fun us s1 hh => by
    obtain ⟨vs, H1, I1, r, q⟩ := hh
    exact ⟨I1.kIn, run_g F hG hr hb hd hx I1 r q⟩
  exact PySem.W.callWith_K (h₀ := X.base) I.ok.mod.kin hk step he hpl
theorem pe_g0 (F : FnG X.prog X.w X.K X.mg X.base CX k f fd ps sp) (hG : X.A.guards = some []) (hr : Room k X.A) (hg : Gl X x) (hm : X.mg x = some (.ref f))
    (hk : PySem.W.keepIn X.K (.ref f) = true) (hb : Binds X.K fd ps ds) (hd : Vals dvs ds) (hx : Passes CX X E)
    (hdb : (x == ("__debug__" : Str)) = false := by decide) : PE X (.Call (.Name x p) [] [] pos) (tCall sp dvs E tNil) := by
  constructor
  intro pins s σ H Q I h
  refine wpAny_Call_Name_kw (ld_glob I hg hm ?_ hdb)
  exact PySem.W.callWith_K0 I.kIn hk (run_g (us := []) F hG hr hb hd hx I .nil h)
theorem run_gk {us ws : List Value} {vs zs : List V} (F : FnG X.prog X.w X.K X.mg X.base CX k f fd ps sp) (hG : X.A.guards = some []) (hr : Room k X.A)
    (hb : KBinds X.K fd ps ks g gV) (hx : Passes CX X E) (I : Inv X pins σ H s) (rv : Vals vs us) (rz : Vals zs ws) (hs : sp (gV vs zs) H Q E) :
    wpAny (model X.prog X.w) X.A (call (.ref f) us (ks.zip ws)) (EP X pins σ Q) X.xe s := by
  have rr := hb.rel rv rz
  have el : (g us ws).length = ps.length := (rr.length).symm.trans (F.len _ _ _ _ hs)
  refine wpAny_call (codeAny_mono (F.run X.A X.stack s H ⟨us, ks.zip ws⟩ (g us ws) (gV vs zs) Q E hG hr I.env0 (hb.to s us ws I.kIn el) rr hs) fun r s' q => ?_)
  have q2 := ends_call I hx q
  revert q2
  match r with
  | .error er => exact id
  | .ok (.ret u) => exact id
  | .ok .next => exact False.elim
  | .ok .brk => exact False.elim
  | .ok .cont => exact False.elim
end
end Cf

namespace Cf
open PySem PySem.Spec PyProof.Rows L2

section
variable {X : Cx} {CX : CXT} {k n : Nat} {f : Addr} {fd : FuncData} {ps ks : List Str} {sp : Sp} {E : XK} {x : Str} {p pos : Pos} {e : Expr} {es : List Expr}
  {kws : List Keyword} {t tk : TA} {g : List Value → List Value → List Value} {gV : List V → List V → List V}
/-- keywords alone: a call whose arguments all are named; g orders them -/
def tKw (m : Nat) (sp : Sp) (gV : List V → List V) (E : XK) (tk : TA) : TE := fun σ H Q => tk σ H fun zs H2 => zs.length = m ∧ sp (gV zs) H2 Q E
structure KwB (K : PySem.W.Frag) (fd : FuncData) (ps ks : List Str) (g : List Value → List Value) (gV : List V → List V) : Prop where
  to : ∀ (s : Shared) (ws : List Value), K.In s.heap → ws.length = ks.length → BindsTo s fd ⟨[], ks.zip ws⟩ (ps.zip (g ws))
  rel : ∀ {zs : List V} {ws : List Value}, zs.length = ks.length → Vals zs ws → Vals (gV zs) (g ws)
variable {g1 : List Value → List Value} {gV1 : List V → List V}
theorem pe_gkw (F : FnG X.prog X.w X.K X.mg X.base CX k f fd ps sp) (hG : X.A.guards = some []) (hr : Room k X.A) (hg : Gl X x) (hm : X.mg x = some (.ref f))
    (hk : PySem.W.keepIn X.K (.ref f) = true) (hb : KwB X.K fd ps ks g1 gV1) (hx : Passes CX X E) (hkw : PK X kws tk)
    (hall : (backToKw pos (keywordEach kws X.env)).all (·.1.isSome) = true := by rfl)
    (hks : (backToKw pos (keywordEach kws X.env)).filterMap (·.1) = ks := by rfl)
    (hdb : (x == ("__debug__" : Str)) = false := by decide)
    (hpl : ((backTo pos (starEach [] X.env)).any (·.1) || (backToKw pos (keywordEach kws X.env)).any (·.1.isNone)) = false := by rfl) :
    PE X (.Call (.Name x p) [] kws pos) (tKw ks.length sp gV1 E tk) := by
  constructor
  intro pins s σ H Q I h
  refine wpAny_Call_Name_kw (ld_glob I hg hm ?_ hdb)
  refine PySem.W.callWith_KW0 (h₀ := X.base) I.ok.mod.kin hk hall (thn (hkw.run pos pins s σ H _ I h) fun ws s2 hh => ?_) hpl
  obtain ⟨zs, H2, I2, rz, l2, q2⟩ := hh
  refine ⟨I2.kIn, ?_⟩
  rw [hks]
  have lw : ws.length = ks.length := rz.length.symm.trans l2
  have rr := hb.rel l2 rz
  refine wpAny_call (codeAny_mono (F.run X.A X.stack s2 H2 ⟨[], ks.zip ws⟩ (g1 ws) (gV1 zs) Q E hG hr I2.env0 (hb.to s2 ws I2.kIn lw) rr q2) fun r s' q => ?_)
  have q3 := ends_call I2 hx q
  revert q3
  match r with
  | .error er => exact id
  | .ok (.ret u) => exact id
  | .ok .next => exact False.elim
  | .ok .brk => exact False.elim
  | .ok .cont => exact False.elim
end

/-! ## repr of data -/
section
variable {X : Cx}
def rRepr (K : PySem.W.Frag) : List V → Hp → VK → Prop := fun xs H Q => ∃ (a : Addr) (d : PyData), xs = [.ref a] ∧ Dp K H (.ref a) d ∧ d.showable = true ∧ d.hasDict = false ∧
  d.shown.length ≤ sizeLine ∧ d.depth ≤ 60 ∧ Q (.str d.shown) H
theorem call_repr (hG : X.A.guards = some []) (hu : X.A.units + 64 < cLine) : CallR X (.builtin "repr") (rRepr X.K) := by
  intro pins s σ H xs us Q I r h
  obtain ⟨a, d, rfl, hd, hs, hn, hz, hp, q⟩ := h
  obtain ⟨u, rfl, rx⟩ := vals1 r
  obtain ⟨as, rd⟩ := Dp.reads I d _ u hd rx
  obtain rfl : u = Value.ref a := rx
  refine repr_of_reads' rd hs (fun z => by rw [hn] at z; cases z) hG (by omega) (fun b o e => e) (fun h' u tk kp => ?_) hz
  exact ⟨.str d.shown, H, I.kept kp, ⟨u, rfl⟩, q⟩
/-- a ** b of great numbers -/
def CPowW (i j : Int) : Prop := 0 ≤ j ∧ j ≤ 100 ∧ i.natAbs.log2 < 100000
theorem op_powW : OpR X (binaryOp .Pow) (rI CPowW fun i j => .int (i ^ j.toNat)) := opI fun i j _ _ _ _ _ hc q => by
  obtain ⟨h0, h1, h2⟩ := hc
  refine pow_int h0 ?_ q
  have hb : Builtin.Int.intBits i ≤ i.natAbs.log2 + 1 := by
    unfold Builtin.Int.intBits
    split <;> omega
  have h3 : (Builtin.Int.intBits i : Int) ≤ 100000 := by omega
  have h4 : (Builtin.Int.intBits i : Int) * j ≤ 100000 * 100 := Int.mul_le_mul h3 h1 h0 (by decide)
  have h5 : (100000 * 100 : Int) ≤ 2 ^ 27 := by decide
  omega
end

/-! ## enumerate of a tuple -/
set_option maxHeartbeats 4000000 in
theorem meets_enum_tup (v : Addr) (items : Array Value) :
    Meets (Builtin.«enumerate.__new__» ⟨[.type "enumerate", .ref v], []⟩) (fun _ R s => s.heap.IsTuple v items ∧
      R (.ok (.ret (.ref (s.heap.push { cls := .type "tuple_iterator", data := .fields #[.ref v, .int 0 0] }).objs.size)))
        { s with heap := (s.heap.push { cls := .type "tuple_iterator", data := .fields #[.ref v, .int 0 0] }).push { cls := .type "enumerate", data := .fields #[.none, .bool false, .ref s.heap.objs.size, rawInt 0, .none, .none] } }) :=
  .of_wp fun prog w A R s h => by
    obtain ⟨hp, gg, dd, tk, os⟩ := s
    obtain ⟨h1, h⟩ := h
    have hsub := sub_enumerate
    have q1 : ∀ {A2 : Around} {E2 : Value → Shared → Prop} {Q2 : Value → Shared → Prop}, Q2 (.ref hp.objs.size) ⟨hp.push { cls := .type "tuple_iterator", data := .fields #[.ref v, .int 0 0] }, gg, dd, tk, os⟩ →
        wpAny (model prog w) A2 (pyIter (.ref v)) Q2 E2 ⟨hp, gg, dd, tk, os⟩ := fun q => wpAny_pyIter_tuple (s := ⟨hp, gg, dd, tk, os⟩) h1 q
    wp_walk using q1
    refine wpAny_stack_any fun st => wpAny_pure ?_
    split
    · rename_i c _ _ _ _ _
      cases (c == Value.type "enumerate")
      · wp_walk using q1
        exact ⟨_, rfl, h⟩
      · wp_walk using q1
        exact ⟨_, rfl, h⟩
    · wp_walk using q1
      exact ⟨_, rfl, h⟩
theorem call_enum_tup {prog : Program} {w : World} {A : Around} {E : Value → Shared → Prop} {s : Shared} {l : Addr} {items : Array Value} {Q : Value → Shared → Prop} (hL : s.heap.IsTuple l items)
    (h : ∀ h', IsEnum h' (s.heap.objs.size + 1) s.heap.objs.size 0 .none → h'.IsTupleIter s.heap.objs.size l 0 → h'.objs.size = s.heap.objs.size + 2 →
      (∀ b o, s.heap.get? b = some o → h'.get? b = some o) → Q (.ref (s.heap.objs.size + 1)) { s with heap := h' }) :
    wpAny (model prog w) A (call (.type "enumerate") [.ref l]) Q E s := by
  refine callType_new F.called_enumerate (by decide) (F.typeCall_enumerate_1 _) (F.newCall_enumerate_1 _) (fun obj => F.args_object_init_2 obj _) F.entry_enumerate_new
    (meets_enum_tup l items) ⟨hL, ?_⟩
  have z1 : (s.heap.push { cls := .type "tuple_iterator", data := .fields #[.ref l, .int 0 0] }).objs.size = s.heap.objs.size + 1 := Heap.size_push ..
  show _ ∧ _
  rw [z1]
  have z2 : IsEnum ((s.heap.push { cls := .type "tuple_iterator", data := .fields #[.ref l, .int 0 0] }).push
      { cls := .type "enumerate", data := .fields #[.none, .bool false, .ref s.heap.objs.size, rawInt 0, .none, .none] }) (s.heap.objs.size + 1) s.heap.objs.size 0 .none := by
    have z3 := Heap.get?_push_size (s.heap.push { cls := .type "tuple_iterator", data := .fields #[.ref l, .int 0 0] })
      (o := { cls := .type "enumerate", data := .fields #[.none, .bool false, .ref s.heap.objs.size, rawInt 0, .none, .none] }) rfl
    rw [z1] at z3
    exact z3
  refine ⟨⟨_, z2, rfl⟩, h _ z2 ⟨_, Heap.get?_push_of_some _ (Heap.get?_push_size _ rfl), rfl, rfl⟩ ?_ fun b o q => Heap.get?_push_of_some _ (Heap.get?_push_of_some _ q)⟩
  rw [Heap.size_push, z1]
end Cf

namespace Cf
open PySem PySem.Spec PyProof.Rows L2

/-- what enumerate of the tuple at a gives: each item in a new pair -/
def IteT (K : PySem.W.Frag) (a : Addr) : It :=
  ⟨fun i H => ∃ (xs : List V) (x : V), SqT K H a xs ∧ xs[i]? = some x,
    fun i H v H' => ∃ T x, v = .ref T ∧ H T = none ∧ H' = upd H T (.tup [.int (i : Nat), x]) ∧ ∀ xs, SqT K H a xs → xs[i]? = some x,
    fun i H => ∃ xs : List V, SqT K H a xs ∧ xs.length = i⟩
theorem turn_enumT {P : Program} {w : World} {K : PySem.W.Frag} {elts : List Expr} {kk : Nat} {tpos : Pos} (a e it : Addr) :
    Turn P w K (.Tuple elts kk tpos) (IteT K a) [e, it] e (fun i h => (∃ old, IsEnum h e it ((i : Nat) : Int) old) ∧ h.IsTupleIter it a i ∧ e ≠ it ∧ a ≠ it ∧ a ≠ e) where
  mem := by simp
  obj := fun i h st b hb => by
    obtain ⟨⟨old, he⟩, ⟨o, ho, hc, hd⟩, _⟩ := st
    have e' : b = e ∨ b = it := by simpa using hb
    rcases e' with z | z
    · rw [z]
      exact ⟨_, he, fun v q => nomatch q⟩
    · rw [z]
      exact ⟨o, ho, fun v q => by rw [hd] at q; cases q⟩
  keep := fun i h h' st kp => by
    obtain ⟨⟨old, he⟩, hi, hne⟩ := st
    exact ⟨⟨old, kp e (by simp) _ he⟩, hi.at fun o q => kp it (by simp) o q, hne⟩
  item := by
    intro X hP hw hK hc i pins s σ H E I hf st hg
    subst hP hw hK
    obtain ⟨⟨old, he⟩, hit, hne, hai, hae⟩ := st
    obtain ⟨xs, x, hq, hx⟩ := hg
    obtain ⟨its, rv, p, hz⟩ := I.tuple hq
    obtain ⟨u, hu, ru⟩ := rv.get hx
    have hel : e < s.heap.objs.size := Heap.lt_size he
    have hil : it < s.heap.objs.size := by
      obtain ⟨_, q, _⟩ := hit
      exact Heap.lt_size q
    have hlt : i < its.toArray.size := by
      have := (List.getElem?_eq_some_iff.mp hu).1
      simpa using this
    refine wpAny_pyNext_enum_itemD (Draws.tuple (prog := X.prog) (w := X.w) (A := X.A.in1) (I.ok.hd hc) it a hai its.toArray) he ⟨hit, p⟩ hlt hne (by
      intro z
      rcases List.mem_cons.mp z with z | z
      · exact hne z
      · exact hae (List.mem_singleton.mp z).symm) fun y h' tk hy ho hst hT hsz hk => ?_
    have ey : y = u := by
      have hy2 : its[i]? = some y := by simpa using hy
      exact Option.some.inj (hy2.symm.trans hu)
    subst ey
    refine ⟨_, rfl, wpAny_letOwnedTupleGo_enum (s := { s with heap := h', toks := tk + 1 }) ho fun h'' he' sb => ?_⟩
    have hT2 : h''.get? s.heap.objs.size = some { cls := .type "tuple", data := .seq #[.int i tk, y] } := (sb.2 _ (Nat.ne_of_gt hel)).trans hT
    have new : ObjOk X.prog X.w (upd H s.heap.objs.size (.tup [.int (i : Nat), x])) h'' s.heap.objs.size (.tup [.int (i : Nat), x]) :=
      ⟨by show 2 ≤ sizeLine; decide, [.int i tk, y], .cons ⟨_, rfl⟩ (.cons ru .nil), ⟨_, hT2, rfl, _, rfl⟩⟩
    have I1 : Inv X pins σ (upd H s.heap.objs.size (.tup [.int (i : Nat), x])) { s with heap := h'', toks := tk + 1 } :=
      I.turnedNew (ch := [e, it]) (fun b ob hb q => (sb.2 b (fun z => hb (by simp [z]))).trans (hk b ob (fun z => hb (by simp [z])) (fun z => hb (by simp [z])) q)) hf (Nat.le_refl _) new
    refine ⟨.ref s.heap.objs.size, _, I1, rfl, ⟨_, x, rfl, I.hok.fresh (Nat.le_refl _), rfl, fun ys hy => ?_⟩, ⟨⟨y, ?_⟩, hst.1.at fun o q => (sb.2 it (Ne.symm hne)).trans q, hne, hai, hae⟩, fun b hb => ?_⟩
    · rw [I.tuple_inj hy hq]
      exact hx
    · have e1 : ((i + 1 : Nat) : Int) = (i : Int) + 1 := by omega
      rw [e1]
      simpa using he'
    · have hb' : b < s.heap.objs.size := by
        have e' : b = e ∨ b = it := by simpa using hb
        rcases e' with z | z
        · rw [z]; exact hel
        · rw [z]; exact hil
      rw [upd_ne (Nat.ne_of_lt hb')]
      exact (hf b hb).1
  done := by
    intro X hP hw hK hc i pins s σ H E I hf st hg
    subst hP hw hK
    obtain ⟨⟨old, he⟩, hit, hne, hai, hae⟩ := st
    obtain ⟨xs, hq, hx⟩ := hg
    obtain ⟨its, rv, p, hz⟩ := I.tuple hq
    obtain ⟨f0, f1, f2, f3, f4, f5⟩ := hf it (by simp)
    have hl := rv.length
    have hn : its.toArray.size = i := by
      rw [List.size_toArray]
      omega
    subst hn
    refine wpAny_pyNext_enum_endD (Draws.tuple (prog := X.prog) (w := X.w) (A := X.A.in1) (I.ok.hd hc) it a hai its.toArray) he ⟨hit, p⟩ fun h' eb => ?_
    exact ⟨rfl, I.turned (t' := s.toks) (fun b o hb q => eb b o hb q) f0 f1 f3 f4 f5⟩
  self := fun A i s Q E st h => by
    obtain ⟨⟨_, he⟩, _⟩ := st
    exact wpAny_pyIter_enum he h
def iEnumT (K : PySem.W.Frag) (ta : TA) : TI := fun σ H R => ta σ H fun vs H1 => ∃ a xs, vs = [.ref a] ∧ SqT K H1 a xs ∧ R (IteT K a) H1
theorem pi_enumT {X : Cx} {e : Expr} {ta : TA} {p pos tpos : Pos} {elts : List Expr} {kk : Nat} (hg : Gl X "enumerate") (hm : X.mg "enumerate" = none) (ha : PA X [e] ta)
    (hs : starEach [e] X.env = [(false, eval e X.env)] := by rfl) : PI X (.Tuple elts kk tpos) (.Call (.Name "enumerate" p) [e] [] pos) (iEnumT X.K ta) := by
  constructor
  intro pins s σ H R I h
  refine Call_ (ld_blt I hg hm boot_enumerate (PyProof.Rows.callWith_type1 (thn (ha.run pos pins s σ H _ I h) fun us s1 hh => ?_) hs rfl))
  obtain ⟨vs, H1, I1, r1, a, xs, ex, hq, q⟩ := hh
  subst ex
  cases r1 with
  | cons r rr =>
    cases rr
    cases r
    obtain ⟨its, rv, pt, hz⟩ := I1.tuple hq
    have ha1 : a < s1.heap.objs.size := pt.lt
    refine call_enum_tup pt fun h' he hit hsz hk => wpAny_pyIter_enum he ?_
    have I2 : Inv X pins σ H1 { s1 with heap := h' } := I1.kept (t' := s1.toks) hk
    refine ⟨s1.heap.objs.size + 1, [s1.heap.objs.size + 1, s1.heap.objs.size], _, _, H1, rfl, I2, turn_enumT a (s1.heap.objs.size + 1) s1.heap.objs.size,
      ⟨⟨.none, he⟩, hit, Nat.succ_ne_self _, Nat.ne_of_lt ha1, Nat.ne_of_lt (Nat.lt_succ_of_lt ha1)⟩, fun b hb => ?_, q⟩
    have e' : b = s1.heap.objs.size + 1 ∨ b = s1.heap.objs.size := by simpa using hb
    have hle : s1.heap.objs.size ≤ b := by
      rcases e' with z | z
      · rw [z]
        exact Nat.le_add_right _ _
      · rw [z]
        exact Nat.le_refl _
    exact I1.fpOk hle (I1.hok.fresh hle)

/-! ## a def's body keeps its promise, no repr under way -/
theorem fng_of {CX : CXT} {P : Program} {w : World} {K : PySem.W.Frag} {mg : Str → Option Value} {base : Heap} {k : Nat} {f : Addr} {name qual : Str} {params : Arguments} {body : List Stmt} {scope : Scope}
    {dV kV doc pm cdv ct oc : Value} {an od : Option Addr} {osl : Array (Option Value)} {N ps : List Str} {sp : Sp}
    (lk : K.lookup f = some ⟨oc, od, .func (PySem.W.fnOf name qual params body scope dV kV doc pm an cdv ct), osl⟩) (hcd : PySem.W.codeIn K cdv qual = true) (S : FnScope N ps scope)
    (len : ∀ vs H Q E, sp vs H Q E → vs.length = ps.length)
    (hbody : ∀ (A : Around) (outer : List Env) (s : Shared) (H : Hp) (vs : List V) (Q : VK) (E : XK), A.guards = some [] → Room k (A.deeper (envOfC qual scope s.heap.objs.size f cdv)) → sp vs H Q E →
      ∃ t, PSs (cxOf CX P w K mg base N qual scope f cdv A outer s H E) body t ∧ t { nx := fun _ H' => Q .non H', rt := Q } (start N vs) H) :
    FnG P w K mg base CX (k + 1) f (PySem.W.fnOf name qual params body scope dV kV doc pm an cdv ct) ps sp := by
  refine ⟨len, ?_⟩
  intro A outer s H args us vs Q E hG hr e0 hb rv hsp
  have kept : ∀ b o, base.get? b = some o → s.heap.get? b = some o := fun b o q => (e0.bs b o q).1
  have inK : K.In s.heap := e0.mod.kin.keeps kept
  have lim : s.heap.NoLimit := e0.mod.nolimit.keeps kept
  have kinds : ∀ y ∈ ps.zip us, scope.names.lookup y.1 = some .local ∨ (scope.names.lookup y.1 = some .cell ∧ ((cellsFrom (s.heap.objs.size + 1) scope.names []).lookup y.1).isSome = true) := by
    intro y hy
    have hp := (List.of_mem_zip (show (y.1, y.2) ∈ ps.zip us from hy)).1
    exact (S.par y.1 hp).imp id fun q => ⟨q, PySem.W.cellsFrom_some _ _ _ (.inl q)⟩
  refine codeAny_call_function hr.depth (inK _ _ lk) rfl S.co S.gen rfl (PySem.W.codeRec_of inK hcd) (hb _ _ _ _ ?_)
  refine wpAny_newFunctionEnv_cells S.kind kinds fun env henv s1 x => ?_
  subst henv
  obtain ⟨t, ht, hq⟩ := hbody A outer s H vs Q E hG (hr.deeper _) hsp
  have I : Inv (cxOf CX P w K mg base N qual scope f cdv A outer s H E) [] (start N vs) H s1 := inv_start S hr.hd e0 (len _ _ _ _ hsp) rv x
  refine ⟨lim.keeps x.toInCall.keep, codeAny_func (wpAny_mono (ht.run [] s1 (start N vs) H _ I hq) (fun fl s' hs => ?_) fun e s' hs => hs)⟩
  match fl, hs with
  | .ret u, ⟨v, σ', H', J, r, q⟩ => exact ⟨v, H', J.os, J.bare, J.base, J.hok, r, q⟩
  | .next, ⟨σ', H', J, q⟩ => exact ⟨V.non, H', J.os, J.bare, J.base, J.hok, (rfl : RelV .non Value.none), q⟩
  | .brk, ⟨_, _, _, q⟩ => exact False.elim q
  | .cont, ⟨_, _, _, q⟩ => exact False.elim q
section
variable {P : Program} {w : World} {K : PySem.W.Frag} {mg : Str → Option Value} {base : Heap}
theorem fun_okG {CX : CXT} {x qual : Str} {st : Stmt} {f : Addr} {fd : FuncData} {N ps : List Str} {k : Nat} {sp : Sp} (F : Fun K x qual st f fd) (S : FnScope N ps (defScope st)) (len : ∀ vs H Q E, sp vs H Q E → vs.length = ps.length)
    (hbody : ∀ (cdv : Value) (A : Around) (outer : List Env) (s : Shared) (H : Hp) (vs : List V) (Q : VK) (E : XK), A.guards = some [] → Room k (A.deeper (envOfC qual (defScope st) s.heap.objs.size f cdv)) → sp vs H Q E →
      ∃ t, PSs (cxOf CX P w K mg base N qual (defScope st) f cdv A outer s H E) (defBody st) t ∧ t { nx := fun _ H' => Q .non H', rt := Q } (start N vs) H) : FnG P w K mg base CX (k + 1) f fd ps sp := by
  obtain ⟨oc, od, kV, doc, pm, an, cdv, ct, osl, rfl, lk, hcd⟩ := F.ex
  exact fng_of lk hcd S len fun A outer s H vs Q E hG hr hsp => hbody cdv A outer s H vs Q E hG hr hsp
theorem fun_kw {x qual : Str} {st : Stmt} {f : Addr} {fd : FuncData} {ps ks : List Str} {g : List Value → List Value} {gV : List V → List V} (F : Fun K x qual st f fd)
    (h : ∀ (kV doc pm : Value) (an : Option Addr) (cdv ct : Value) (ws : List Value), ws.length = ks.length → bindArgs (PySem.W.fnOf x qual (defArgs st) (defBody st) (defScope st) .none kV doc pm an cdv ct) ⟨[], ks.zip ws⟩ = pure (ps.zip (g ws)))
    (rel : ∀ {zs : List V} {ws : List Value}, zs.length = ks.length → Vals zs ws → Vals (gV zs) (g ws)) : KwB K fd ps ks g gV := by
  obtain ⟨oc, od, kV, doc, pm, an, cdv, ct, osl, rfl, lk, hcd⟩ := F.ex
  exact ⟨fun s ws _ hl => .of_eq (h kV doc pm an cdv ct ws hl), rel⟩
end
end Cf

namespace Cf
open PySem PySem.Spec PyProof.Rows L2

/-- from an abstract heap in which nothing but the script may be tracked -/
theorem lawG_core {P : Program} {w : World} {K : PySem.W.Frag} {mg mb : Str → Option Value} {CX : CXT} {k : Nat} {fa a : Addr} {fd : FuncData} {x : Str} {sp : Sp} {s1 : Shared} {vs : List Value}
    (KX : K.In s1.heap) (hns : s1.heap.Ns mainGlobals mg) (hb : s1.heap.Ns builtinsNs mb) (hbb : ∀ x : Str, x ≠ "__name__" → mb x = bootBuiltins x) (hlim : s1.heap.NoLimit) (hg : s1.gens = #[])
    (ha : s1.heap.get? a = some { cls := .type "list", data := .seq vs.toArray }) (hr : Room k callerA)
    (F : ∀ base : Heap, K.In base → base.Ns mainGlobals mg → FnG P w K mg base CX k fa fd [x] sp) (hbind : ∀ (s : Shared) (u : Value), BindsTo s fd ⟨[u], []⟩ [(x, u)])
    (hCX : ∀ H e s', CX [] H s1 (fun _ _ _ => False) e s' → False) (H : Hp) (hO : Only H) (hok : HOk P w H s1.heap) (hA : ∀ b, H b ≠ none → b = a) (hK : H a ≠ none → K.lookup a = none)
    (hsp : sp [.ref a] H (fun v _ => v = .bl true) fun _ _ _ => False) :
    codeAny (model P w) callerA (.call (.ref fa) ⟨[.ref a], []⟩) (fun r s' => r = .ok (.ret (.bool true)) ∧ OldK s1.heap s'.heap ∧ s'.os = s1.os ∧ AllBare s'.gens) s1 := by
  have noDict : ∀ (b : Addr) (o : Obj) (es : Array DictEntry) (ep : Nat), s1.heap.get? b = some o → o.data = .dict es ep → H b = none := by
    intro b o es ep q1 q2
    by_cases hb0 : H b = none
    · exact hb0
    · have e1 := hA b hb0
      subst e1
      rw [ha] at q1
      cases q1
      cases q2
  have ns2 : ∀ (b : Addr) (m : Str → Option Value), s1.heap.Ns b m → (hidT s1.heap H).Ns b m := by
    intro b m hm
    obtain ⟨o, es, ep, q1, q2, q3⟩ := hm
    exact ⟨o, es, ep, hidT_get q1 (noDict b o es ep q1 q2), q2, q3⟩
  have inK : K.In (hidT s1.heap H) := by
    intro b o q
    refine hidT_get (KX b o q) ?_
    by_cases hb0 : H b = none
    · exact hb0
    · have e1 := hA b hb0
      subst e1
      rw [hK hb0] at q
      cases q
  have hlim2 : (hidT s1.heap H).NoLimit := by
    obtain ⟨mc, q1, q2⟩ := hlim
    exact ⟨mc, ns2 _ _ q1, q2⟩
  have e0 : Env0 P w K mg (hidT s1.heap H) callerA [] s1 H :=
    ⟨rfl, ⟨inK, ns2 _ _ hns, ⟨mb, ns2 _ _ hb, hbb⟩, hlim2⟩, fun b o q => of_hidT q, Nat.le_of_eq (hidT_size _ _), trivial, fun b q => (List.not_mem_nil q).elim, hok, .of_eq hg⟩
  have run := (F _ inK (ns2 _ _ hns)).run callerA [] s1 H ⟨[.ref a], []⟩ [.ref a] [.ref a] _ _ rfl hr e0 (hbind s1 (.ref a)) (.cons rfl .nil) hsp
  refine codeAny_mono run fun r s' q => ?_
  match r, q with
  | .error e, q => exact (hCX H e s' q).elim
  | .ok (.ret u), q =>
    obtain ⟨v, H2, os, bare, un, hok2, rel, ev⟩ := q
    have ev2 : v = .bl true := ev
    subst ev2
    obtain rfl : u = Value.bool true := rel
    refine ⟨rfl, OldK.of_keep fun b o q1 => ?_, os, bare⟩
    rcases hO b with z | ⟨ob, xs, z⟩
    · exact un.keep b o q1 z (fun q2 => (List.not_mem_nil q2).elim) (fun q2 => (List.not_mem_nil q2).elim)
    · obtain ⟨g1, _⟩ := hok b _ z
      obtain ⟨g2, _⟩ := hok2 b _ (un.frzs b ob _ z)
      rw [q1] at g1
      cases g1
      exact g2

theorem lawG {P : Program} {w : World} {K : PySem.W.Frag} {mg mb : Str → Option Value} {CX : CXT} {k : Nat} {fa a : Addr} {fd : FuncData} {x : Str} {sp : Sp} {s1 : Shared} {vs : List Value} {ns : List Int}
    (KX : K.In s1.heap) (hns : s1.heap.Ns mainGlobals mg) (hb : s1.heap.Ns builtinsNs mb) (hbb : ∀ x : Str, x ≠ "__name__" → mb x = bootBuiltins x) (hlim : s1.heap.NoLimit) (hg : s1.gens = #[])
    (ha : s1.heap.get? a = some { cls := .type "list", data := .seq vs.toArray }) (hi : IntsAre vs ns) (hl : ns.length ≤ sizeLine) (hr : Room k callerA)
    (F : ∀ base : Heap, K.In base → base.Ns mainGlobals mg → FnG P w K mg base CX k fa fd [x] sp) (hbind : ∀ (s : Shared) (u : Value), BindsTo s fd ⟨[u], []⟩ [(x, u)])
    (hsp : ∀ H : Hp, Only H → SqL K H a (ns.map V.int) → sp [.ref a] H (fun v _ => v = .bl true) fun _ _ _ => False)
    (hCX : ∀ H e s', CX [] H s1 (fun _ _ _ => False) e s' → False) :
    codeAny (model P w) callerA (.call (.ref fa) ⟨[.ref a], []⟩) (fun r s' => r = .ok (.ret (.bool true)) ∧ OldK s1.heap s'.heap ∧ s'.os = s1.os ∧ AllBare s'.gens) s1 := by
  have vr := vals_ints hi
  have vl := hi.length
  by_cases hk : K.lookup a = none
  · have hat : ∀ u, (fun b => if b = a then some (HO.frz { cls := .type "list", data := .seq vs.toArray } (.lst (ns.map V.int))) else none) a = some u → u = HO.frz { cls := .type "list", data := .seq vs.toArray } (.lst (ns.map V.int)) := by
      intro u q
      have q2 := (if_pos rfl).symm.trans q
      cases q2
      rfl
    have hO : Only (fun b => if b = a then some (HO.frz { cls := .type "list", data := .seq vs.toArray } (.lst (ns.map V.int))) else none) := by
      intro b
      by_cases e : b = a
      · exact .inr ⟨_, _, if_pos e⟩
      · exact .inl (if_neg e)
    refine lawG_core KX hns hb hbb hlim hg ha hr F hbind hCX _ hO (fun b u q => ?_) (fun b q => ?_) (fun _ => hk) (hsp _ hO (.inl (.inr ⟨_, if_pos rfl⟩)))
    · by_cases e : b = a
      · subst e
        obtain rfl := hat u q
        exact ⟨ha, by rw [List.length_map]; exact hl, vs, _, vr, ha⟩
      · have q2 := (if_neg e).symm.trans q
        cases q2
    · by_cases e : b = a
      · exact e
      · exact absurd (if_neg e) q
  · obtain ⟨o, ho⟩ := Option.ne_none_iff_exists'.mp hk
    have q := KX a o ho
    rw [ha] at q
    cases q
    refine lawG_core KX hns hb hbb hlim hg ha hr F hbind hCX (fun _ => none) (fun _ => .inl rfl) (fun b u z => ?_) (fun b z => absurd rfl z) (fun z => absurd rfl z)
      (hsp _ (fun _ => .inl rfl) (.inr ⟨_, vs.toArray, _, ho, rfl, rfl, rfl, by rw [List.size_toArray, vl]; exact hl, by simpa using vr⟩))
    have z2 : (none : Option HO) = some u := z
    cases z2

theorem walkG {l : PySem.W.OpenLaw} {n k : Nat} {q : Program} {loose : List Str} {XP : (Str → Option Value) → Heap → Prop} {YP : World → Heap → Prop} {d : DefRec} {K : Params → PySem.W.Frag} {CX : World → CXT} {sp : World → Sp} {x : Str}
    (hn : l.most = some n) (hn2 : n ≤ sizeLine) (hdf : d.params.defaults = []) (hr : Room k callerA)
    (hY : ∀ (w : World) (h : Heap), YP w h → (K w.params).In h)
    (F : ∀ (w : World) (mg : Str → Option Value) (fa : Addr) (h : Heap), (K w.params).In h → h.Ns mainGlobals mg → mg d.name = some (.ref fa) →
      ∃ fd : FuncData, (∀ (s : Shared) (u : Value), BindsTo s fd ⟨[u], []⟩ [(x, u)]) ∧
        ∀ base : Heap, (K w.params).In base → base.Ns mainGlobals mg → FnG l.prog w (K w.params) mg base (CX w) k fa fd [x] (sp w))
    (hsp : ∀ (w : World) (H : Hp) (a : Addr) (ns : List Int), ns.length ≤ n → Only H → SqL (K w.params) H a (ns.map V.int) → sp w [.ref a] H (fun v _ => v = .bl true) fun _ _ _ => False)
    (hCX : ∀ (w : World) (H : Hp) (s : Shared) (e : Value) (s' : Shared), CX w [] H s (fun _ _ _ => False) e s' → False) :
    PySem.W.WalkO q loose XP YP l.row.toRowW d [] (fun f vs => PySem.call f vs) := by
  refine Att.attach_call hn hdf ?_
  intro w s0 s1 mg mb fa o pm cd doc a vs ns G Y ho hd hcd hmg hobj hints hlen hg
  have inK := hY w _ Y
  obtain ⟨fd, hb, hF⟩ := F w mg fa _ inK G.T.g hmg
  exact lawG inK G.T.g G.T.b G.T.builtins G.T.nolimit hg hobj hints (Nat.le_trans hlen hn2) hr hF hb (fun H hO hS => hsp w H a ns hlen hO hS) fun H e s' => hCX w H s1 e s'
end Cf

namespace Cf
open PySem PySem.Spec PyProof.Rows L2 Evl

/-! ## a def that callers know -/
structure Df (K : PySem.W.Frag) (mg : Str → Option Value) (x : Str) (st : Stmt) (ps : List Str) (f : Addr) (fd : FuncData) : Prop where
  F : Fun K x x st f fd
  g : mg x = some (.ref f)
  b : Binds K fd ps []
def Cl (P : Program) (w : World) (K : PySem.W.Frag) (mg : Str → Option Value) (base : Heap) (k : Nat) (x : Str) (ps : List Str) (sp : Sp) : Prop :=
  ∃ (f : Addr) (fd : FuncData), FnG P w K mg base CX0 k f fd ps sp ∧ mg x = some (.ref f) ∧ PySem.W.keepIn K (.ref f) = true ∧ Binds K fd ps []
section
variable {P : Program} {w : World} {K : PySem.W.Frag} {mg : Str → Option Value} {base : Heap}
theorem Cl.mk {k : Nat} {x : Str} {st : Stmt} {ps : List Str} {sp : Sp} {f : Addr} {fd : FuncData} (D : Df K mg x st ps f fd) (F : FnG P w K mg base CX0 k f fd ps sp) : Cl P w K mg base k x ps sp :=
  ⟨f, fd, F, D.g, D.F.kp, D.b⟩
theorem Cl.imp {k : Nat} {x : Str} {ps : List Str} {sp sp2 : Sp} (C : Cl P w K mg base k x ps sp) (h : ∀ vs H Q E, sp2 vs H Q E → sp vs H Q E) : Cl P w K mg base k x ps sp2 := by
  obtain ⟨f, fd, F, q⟩ := C
  exact ⟨f, fd, F.imp h, q⟩
/-- a body that nothing leaves -/
theorem df_ok {x : Str} {st : Stmt} {f : Addr} {fd : FuncData} {N ps : List Str} {k : Nat} {sp : Sp} (D : Df K mg x st ps f fd) (S : FnScope N ps (defScope st)) (len : ∀ vs H Q E, sp vs H Q E → vs.length = ps.length)
    (hbody : ∀ (cdv : Value) (A : Around) (outer : List Env) (s : Shared) (H : Hp) (vs : List V) (Q : VK) (E : XK), A.guards = some [] → Room k (A.deeper (envOfC x (defScope st) s.heap.objs.size f cdv)) → sp vs H Q E →
      ∃ t, PSs (cxOf CX0 P w K mg base N x (defScope st) f cdv A outer s H E).nox (defBody st) t ∧ t { nx := fun _ H' => Q .non H', rt := Q } (start N vs) H) : FnG P w K mg base CX0 (k + 1) f fd ps sp :=
  fun_okG D.F S len fun cdv A outer s H vs Q E hG hr hs => by
    obtain ⟨t, h, q⟩ := hbody cdv A outer s H vs Q E hG hr hs
    exact ⟨t, h.nox, q⟩
end
section
variable {X : Cx} {j k : Nat} {ps ks : List Str} {sp : Sp} {x : Str} {p pos : Pos} {e : Expr} {es : List Expr} {kws : List Keyword} {t tk : TA} {f : Addr} {fd : FuncData}
theorem pe_cl (C : Cl X.prog X.w X.K X.mg X.base j x ps sp) (hG : X.A.guards = some []) (hr : Room k X.A) (hg : Gl X x) (ha : PA X (e :: es) t) (hjk : j ≤ k := by decide)
    (hdb : (x == ("__debug__" : Str)) = false := by decide)
    (he : starEach (e :: es) X.env = (false, eval e X.env) :: starEach es X.env := by rfl)
    (hpl : (backTo pos (starEach es X.env)).any (·.1) = false := by rfl) : PE X (.Call (.Name x p) (e :: es) [] pos) (tCall sp [] E0 t) := by
  obtain ⟨f, fd, F, g, kp, b⟩ := C
  exact pe_g F hG (hr.mono hjk) hg g kp b .nil pass0 ha hdb he hpl
theorem pe_cl0 (C : Cl X.prog X.w X.K X.mg X.base j x ps sp) (hG : X.A.guards = some []) (hr : Room k X.A) (hg : Gl X x) (hjk : j ≤ k := by decide)
    (hdb : (x == ("__debug__" : Str)) = false := by decide) : PE X (.Call (.Name x p) [] [] pos) (tCall sp [] E0 tNil) := by
  obtain ⟨f, fd, F, g, kp, b⟩ := C
  exact pe_g0 F hG (hr.mono hjk) hg g kp b .nil pass0 hdb
/-- how a def takes its arguments by name -/
def KwC (K : PySem.W.Frag) (mg : Str → Option Value) (x : Str) (ps ks : List Str) (gV : List V → List V) : Prop :=
  ∀ (f : Addr) (fd : FuncData), mg x = some (.ref f) → (∃ g, KwB K fd ps ks g gV)
end
end Cf
namespace Cf
open PySem PySem.Spec PyProof.Rows L2 Evl
def Ck (P : Program) (w : World) (K : PySem.W.Frag) (mg : Str → Option Value) (base : Heap) (k : Nat) (x : Str) (ks : List Str) (gV : List V → List V) (sp : Sp) : Prop :=
  ∃ (f : Addr) (fd : FuncData) (ps : List Str) (g : List Value → List Value), FnG P w K mg base CX0 k f fd ps sp ∧ mg x = some (.ref f) ∧ PySem.W.keepIn K (.ref f) = true ∧ KwB K fd ps ks g gV
theorem Ck.mk {P : Program} {w : World} {K : PySem.W.Frag} {mg : Str → Option Value} {base : Heap} {k : Nat} {x : Str} {st : Stmt} {ps ks : List Str} {sp : Sp} {f : Addr} {fd : FuncData} {gV : List V → List V}
    (D : Df K mg x st ps f fd) (F : FnG P w K mg base CX0 k f fd ps sp) (g : List Value → List Value)
    (h : ∀ (kV doc pm : Value) (an : Option Addr) (cdv ct : Value) (ws : List Value), ws.length = ks.length → bindArgs (PySem.W.fnOf x x (defArgs st) (defBody st) (defScope st) .none kV doc pm an cdv ct) ⟨[], ks.zip ws⟩ = pure (ps.zip (g ws)))
    (rel : ∀ {zs : List V} {ws : List Value}, zs.length = ks.length → Vals zs ws → Vals (gV zs) (g ws)) : Ck P w K mg base k x ks gV sp :=
  ⟨f, fd, ps, g, F, D.g, D.F.kp, fun_kw D.F h rel⟩
section
variable {X : Cx} {j k : Nat} {ps ks : List Str} {sp : Sp} {x : Str} {p pos : Pos} {kws : List Keyword} {t tk : TA} {gV : List V → List V}
theorem pe_ck (C : Ck X.prog X.w X.K X.mg X.base j x ks gV sp) (hG : X.A.guards = some []) (hr : Room k X.A) (hg : Gl X x) (hkw : PK X kws tk) (hjk : j ≤ k := by decide)
    (hall : (backToKw pos (keywordEach kws X.env)).all (·.1.isSome) = true := by rfl)
    (hks : (backToKw pos (keywordEach kws X.env)).filterMap (·.1) = ks := by rfl)
    (hdb : (x == ("__debug__" : Str)) = false := by decide)
    (hpl : ((backTo pos (starEach [] X.env)).any (·.1) || (backToKw pos (keywordEach kws X.env)).any (·.1.isNone)) = false := by rfl) :
    PE X (.Call (.Name x p) [] kws pos) (tKw ks.length sp gV E0 tk) := by
  obtain ⟨f, fd, ps, g, F, gm, kp, b⟩ := C
  exact pe_gkw F hG (hr.mono hjk) hg gm kp b pass0 hkw hall hks hdb hpl
end
/-- a turn of a loop over enumerate(t) -/
theorem for_enumT {K : PySem.W.Frag} {a : Addr} {xs : List V} {g : TG} {tb : TS} {D : Ends} {σ : L2.St} {H : Hp} (Pv : Nat → L2.St → Hp → Prop) (h0 : Pv 0 σ H) (hl : ∀ i σ H, i ≤ xs.length → Pv i σ H → SqT K H a xs)
    (hq : ∀ i σ H T x, Pv i σ H → H T = none → Pv i σ (upd H T (.tup [.int (i : Nat), x])))
    (hs : ∀ i x T σ H, xs[i]? = some x → Pv i σ H → H T = some (.tup [.int (i : Nat), x]) → g (.ref T) σ H fun σ2 H2 => tb { D with nx := Pv (i + 1), ct := Pv (i + 1), bk := D.nx } σ2 H2) (hd : ∀ σ H, Pv xs.length σ H → D.nx σ H) :
    ∃ W : Nat → Nat → L2.St → Hp → Prop, (∃ m, W 0 m σ H) ∧ ∀ i m σ H, W i m σ H →
      ((IteT K a).stop i H ∧ D.nx σ H) ∨ ((IteT K a).go i H ∧ ∃ N : L2.St → Hp → Prop, (∀ σ' H', N σ' H' → ∃ m', m' < m ∧ W (i + 1) m' σ' H') ∧ ∀ x H', (IteT K a).yld i H x H' → g x σ H' fun σ2 H2 => tb { D with nx := N, ct := N, bk := D.nx } σ2 H2) := by
  refine ⟨fun i m σ H => m = xs.length - i ∧ i ≤ xs.length ∧ Pv i σ H, ⟨xs.length, by simp, Nat.zero_le _, h0⟩, ?_⟩
  intro i m σ H hw
  obtain ⟨rfl, hi, p⟩ := hw
  have q := hl i σ H hi p
  rcases Nat.lt_or_eq_of_le hi with hlt | he
  · refine .inr ⟨⟨xs, xs[i], q, List.getElem?_eq_getElem hlt⟩, Pv (i + 1), fun σ' H' p' => ⟨xs.length - (i + 1), by omega, rfl, hlt, p'⟩, fun v H' y => ?_⟩
    obtain ⟨T, x, rfl, hT, rfl, hx⟩ := y
    exact hs i x T σ _ (hx xs q) (hq i σ H T x p hT) upd_same
  · subst he
    exact .inl ⟨⟨xs, q, rfl⟩, hd σ H p⟩
end Cf

namespace Cf
open PySem PySem.Spec PyProof.Rows L2 Evl

/-! ## types and models, plainly -/
inductive Kd where
  | ch | sc | uc | sh | us | it | ui | lo | ul | wi | uw
  deriving DecidableEq
def Kd.s : Kd → Str
  | .ch => "char" | .sc => "schar" | .uc => "uchar" | .sh => "short" | .us => "ushort" | .it => "int" | .ui => "uint" | .lo => "long" | .ul => "ulong" | .wi => "wide" | .uw => "uwide"
def Kd.rk : Kd → Nat
  | .ch => 0 | .sc => 0 | .uc => 0 | .sh => 1 | .us => 1 | .it => 2 | .ui => 2 | .lo => 3 | .ul => 3 | .wi => 4 | .uw => 4
def Kd.all : List Kd := [.ch, .sc, .uc, .sh, .us, .it, .ui, .lo, .ul, .wi, .uw]
abbrev Kd.v (k : Kd) : V := .str k.s
structure Md where
  w0 : Nat
  w1 : Nat
  w2 : Nat
  w3 : Nat
  w4 : Nat
  u : Bool
structure Md.Ok (m : Md) : Prop where
  h0 : 2 ≤ m.w0
  h1 : m.w0 ≤ m.w1
  h2 : m.w1 ≤ m.w2
  h3 : m.w2 ≤ m.w3
  h4 : m.w3 ≤ m.w4
  h5 : m.w4 ≤ 128
def Md.w (m : Md) : Nat → Nat
  | 0 => m.w0 | 1 => m.w1 | 2 => m.w2 | 3 => m.w3 | _ => m.w4
def Md.ns (m : Md) : List Int := [m.w0, m.w1, m.w2, m.w3, m.w4]
abbrev Md.ws (m : Md) : List V := m.ns.map V.int
def plS (u : Bool) : Str := if u then "u" else "s"
def Md.b (m : Md) (k : Kd) : Nat := m.w k.rk
def Md.un (m : Md) : Kd → Bool
  | .ch => m.u | .uc => true | .us => true | .ui => true | .ul => true | .uw => true | _ => false
def Md.low (m : Md) (k : Kd) : Int := if m.un k then 0 else -(2 ^ (m.b k - 1))
def Md.high (m : Md) (k : Kd) : Int := if m.un k then 2 ^ m.b k - 1 else 2 ^ (m.b k - 1) - 1
theorem Md.Ok.bnd {m : Md} (h : m.Ok) (i : Nat) : 2 ≤ m.w i ∧ m.w i ≤ 128 := by
  obtain ⟨h0, h1, h2, h3, h4, h5⟩ := h
  match i with
  | 0 => simp only [Md.w]; omega
  | 1 => simp only [Md.w]; omega
  | 2 => simp only [Md.w]; omega
  | 3 => simp only [Md.w]; omega
  | n + 4 => simp only [Md.w]; omega
theorem Md.Ok.b {m : Md} (h : m.Ok) (k : Kd) : 2 ≤ m.b k ∧ m.b k ≤ 128 := h.bnd _
theorem Md.at_ {m : Md} {i : Nat} (h : i < 5) : m.ws[i]? = some (.int (m.w i)) := by
  match i, h with
  | 0, _ => rfl
  | 1, _ => rfl
  | 2, _ => rfl
  | 3, _ => rfl
  | 4, _ => rfl
theorem Kd.rk_lt (k : Kd) : k.rk < 5 := by cases k <;> decide

/-- a model stands at p -/
def AtM (K : PySem.W.Frag) (H : Hp) (p : Addr) (m : Md) : Prop := ∃ q, SqT K H p [.ref q, .str (plS m.u)] ∧ SqT K H q m.ws
theorem AtM.ex {K : PySem.W.Frag} {H H' : Hp} {p : Addr} {m : Md} (e : Ex H H') (h : AtM K H p m) : AtM K H' p m := by
  obtain ⟨q, a, b⟩ := h
  exact ⟨q, ex_t e a, ex_t e b⟩

/-! ## the module's constants -/
def CT (K : PySem.W.Frag) (mg : Str → Option Value) (x : Str) (xs : List V) : Prop := ∃ a, mg x = some (.ref a) ∧ ∀ H, SqT K H a xs
def CI (mg : Str → Option Value) (x : Str) (i : Int) : Prop := ∃ t, mg x = some (.int i t)
def CR5 (K : PySem.W.Frag) (w : World) (mg : Str → Option Value) : Prop := ∃ a, mg "RANKS" = some (.ref a) ∧ ∀ k : Kd, KDct K w a k.s (.int k.rk)
def vKINDS : List V := Kd.all.map Kd.v
def vSIGNED : List V := [Kd.sc.v, Kd.sh.v, Kd.it.v, Kd.lo.v, Kd.wi.v]
def vUNSIGNED : List V := [Kd.uc.v, Kd.us.v, Kd.ui.v, Kd.ul.v, Kd.uw.v]
def vPLAIN : List V := [.str "s", .str "u"]
section
variable {X : Cx} {pos : Pos}
theorem pe_ct {x : Str} {xs : List V} (hg : Gl X x) (c : CT X.K X.mg x xs) (hd : (x == ("__debug__" : Str)) = false := by decide) : PE X (.Name x pos) (fun σ H Q => ∀ a, SqT X.K H a xs → Q (.ref a) H) := by
  obtain ⟨a, e, q⟩ := c
  constructor
  intro pins s σ H Q I h
  exact (pe_glob (v := .ref a) hg e rfl hd).run pins s σ H Q I (h a (q H))
theorem pe_ci {x : Str} {i : Int} (hg : Gl X x) (c : CI X.mg x i) (hd : (x == ("__debug__" : Str)) = false := by decide) : PE X (.Name x pos) (tC (.int i)) := by
  obtain ⟨t, e⟩ := c
  exact pe_glob hg e ⟨t, rfl⟩ hd
end
/-! ## promises -/
/-- what a pure def gives -/
def PV (pre : List V → Hp → V → Prop) : Sp := fun vs H Q _ => ∃ v, pre vs H v ∧ ∀ H', Ex H H' → Q v H'
def PU (pre : List V → Hp → List V → Prop) : Sp := fun vs H Q _ => ∃ xs, pre vs H xs ∧ ∀ p H', H p = none → Ex H H' → H' p = some (.tup xs) → Q (.ref p) H'
def PL (pre : List V → Hp → List V → Prop) : Sp := fun vs H Q _ => ∃ xs, pre vs H xs ∧ ∀ p H', H p = none → Ex H H' → H' p = some (.lst xs) → Q (.ref p) H'
theorem PV.sp {pre : List V → Hp → V → Prop} {vs : List V} {H : Hp} {v : V} (h : ∀ H1, Ex H H1 → pre vs H1 v) : SpV (PV pre) vs H v := fun H1 e Q q E => ⟨v, h H1 e, q⟩
/-- a def of a model and a type -/
def preMK (K : PySem.W.Frag) (g : Md → Kd → V) : List V → Hp → V → Prop := fun vs H v => ∃ p m k, vs = [.ref p, k.v] ∧ AtM K H p m ∧ m.Ok ∧ v = g m k
def preMU (K : PySem.W.Frag) (g : Md → Kd → List V) : List V → Hp → List V → Prop := fun vs H v => ∃ p m k, vs = [.ref p, k.v] ∧ AtM K H p m ∧ m.Ok ∧ v = g m k
def preMKI (K : PySem.W.Frag) (g : Md → Kd → Int → V) : List V → Hp → V → Prop := fun vs H v => ∃ p m k i, vs = [.ref p, k.v, .int i] ∧ AtM K H p m ∧ m.Ok ∧ v = g m k i
def preMKK (K : PySem.W.Frag) (g : Md → Kd → Kd → V) : List V → Hp → V → Prop := fun vs H v => ∃ p m k l, vs = [.ref p, k.v, l.v] ∧ AtM K H p m ∧ m.Ok ∧ v = g m k l
def preM (K : PySem.W.Frag) : List V → Hp → V → Prop := fun vs H v => ∃ p m, vs = [.ref p] ∧ AtM K H p m ∧ m.Ok ∧ v = .non
def preW (K : PySem.W.Frag) : List V → Hp → V → Prop := fun vs H v => ∃ p m, vs = [.ref p] ∧ SqT K H p (Md.ws m) ∧ m.Ok ∧ v = .non
def preK : List V → Hp → V → Prop := fun vs H v => ∃ k : Kd, vs = [k.v] ∧ v = .non
theorem spMK {K : PySem.W.Frag} {g : Md → Kd → V} {H : Hp} {p : Addr} {m : Md} {k : Kd} (a : AtM K H p m) (o : m.Ok) : SpV (PV (preMK K g)) [.ref p, k.v] H (g m k) := PV.sp fun H1 e => ⟨p, m, k, rfl, a.ex e, o, rfl⟩
theorem spMKI {K : PySem.W.Frag} {g : Md → Kd → Int → V} {H : Hp} {p : Addr} {m : Md} {k : Kd} {i : Int} (a : AtM K H p m) (o : m.Ok) : SpV (PV (preMKI K g)) [.ref p, k.v, .int i] H (g m k i) := PV.sp fun H1 e => ⟨p, m, k, i, rfl, a.ex e, o, rfl⟩
theorem spMKK {K : PySem.W.Frag} {g : Md → Kd → Kd → V} {H : Hp} {p : Addr} {m : Md} {k l : Kd} (a : AtM K H p m) (o : m.Ok) : SpV (PV (preMKK K g)) [.ref p, k.v, l.v] H (g m k l) := PV.sp fun H1 e => ⟨p, m, k, l, rfl, a.ex e, o, rfl⟩
theorem spM {K : PySem.W.Frag} {H : Hp} {p : Addr} {m : Md} (a : AtM K H p m) (o : m.Ok) : SpV (PV (preM K)) [.ref p] H .non := PV.sp fun H1 e => ⟨p, m, rfl, a.ex e, o, rfl⟩
theorem spW {K : PySem.W.Frag} {H : Hp} {p : Addr} {m : Md} (a : SqT K H p m.ws) (o : m.Ok) : SpV (PV (preW K)) [.ref p] H .non := PV.sp fun H1 e => ⟨p, m, rfl, ex_t e a, o, rfl⟩
theorem spK {H : Hp} {k : Kd} : SpV (PV preK) [k.v] H .non := PV.sp fun H1 e => ⟨k, rfl, rfl⟩
/-- a call's tuple -/
def SpU (sp : Sp) (vs : List V) (H : Hp) (xs : List V) : Prop := ∀ H1, Ex H H1 → ∀ Q : VK, (∀ p H2, H1 p = none → Ex H1 H2 → H2 p = some (.tup xs) → Q (.ref p) H2) → ∀ E : XK, sp vs H1 Q E
theorem spMU {K : PySem.W.Frag} {g : Md → Kd → List V} {H : Hp} {p : Addr} {m : Md} {k : Kd} (a : AtM K H p m) (o : m.Ok) : SpU (PU (preMU K g)) [.ref p, k.v] H (g m k) := fun H1 e Q q E => ⟨_, ⟨p, m, k, rfl, a.ex e, o, rfl⟩, q⟩
theorem eu_call {σ : L2.St} {H : Hp} {sp : Sp} {dvs vs xs : List V} {E : XK} {ta : TA} (h : EvA ta σ H vs) (hs : SpU sp (vs ++ dvs) H xs) : EvU (tCall sp dvs E ta) σ H xs := fun H1 e Q q =>
  h H1 e _ fun H2 e2 => hs H2 (e.trans e2) Q (fun p H3 hp e3 h3 => q p H3 (fresh_back e2 hp) (e2.trans e3) h3) E
theorem ev_ct {K : PySem.W.Frag} {σ : L2.St} {H : Hp} {xs : List V} {r : R2} {ta : TE} {x z : V} (ha : Ev ta σ H x) (hr : ∀ a H1, Ex H H1 → SqT K H1 a xs → RV r x (.ref a) H1 z) :
    Ev (tOp r ta (fun σ H Q => ∀ a, SqT K H a xs → Q (.ref a) H)) σ H z := fun H1 e Q q =>
  ha H1 e _ fun H2 e2 => fun a t => hr a H2 (e.trans e2) t H2 (Ex.refl H2) Q fun H3 e3 => q H3 (e2.trans e3)
theorem pre_len1 {pre : List V → Hp → V → Prop} {n : Nat} (h : ∀ vs H v, pre vs H v → vs.length = n) : ∀ vs H Q E, PV pre vs H Q E → vs.length = n := fun vs H Q E q => by
  obtain ⟨v, a, _⟩ := q
  exact h _ _ _ a
theorem pre_lenU {pre : List V → Hp → List V → Prop} {n : Nat} (h : ∀ vs H v, pre vs H v → vs.length = n) : ∀ vs H Q E, PU pre vs H Q E → vs.length = n := fun vs H Q E q => by
  obtain ⟨v, a, _⟩ := q
  exact h _ _ _ a
end Cf

namespace Cf
open PySem PySem.Spec PyProof.Rows L2 Evl

/-! ## the draws -/
/-- all but the object at r is as it was -/
def Bu (r : Addr) (H H' : Hp) : Prop := ∀ b o, b ≠ r → H b = some o → H' b = some o
theorem Bu.refl (r : Addr) (H : Hp) : Bu r H H := fun _ _ _ h => h
theorem Bu.trans {r : Addr} {H H1 H2 : Hp} (a : Bu r H H1) (b : Bu r H1 H2) : Bu r H H2 := fun c o n h => b c o n (a c o n h)
theorem Bu.of {r : Addr} {H H1 : Hp} (a : Ex H H1) : Bu r H H1 := fun c o _ h => a c o h
theorem Bu.upd {r : Addr} {H : Hp} {o : HO} : Bu r H (upd H r o) := fun c u n h => by rw [upd_ne n]; exact h
theorem Bu.l {K : PySem.W.Frag} {r a : Addr} {H H1 : Hp} {xs : List V} (e : Bu r H H1) (n : a ≠ r) (h : SqL K H a xs) : SqL K H1 a xs := by
  rcases h with (h | ⟨o, h⟩) | h
  · exact .inl (.inl (e _ _ n h))
  · exact .inl (.inr ⟨o, e _ _ n h⟩)
  · exact .inr h
def Rng (H : Hp) (r : Addr) (n : Nat) : Prop := ∃ d s c : Int, H r = some (.lst [.int d, .int s, .int c]) ∧ s.natAbs < 2 ^ 70 ∧ 0 ≤ c ∧ c ≤ n
theorem Rng.ex {H H' : Hp} {r : Addr} {n : Nat} (h : Rng H r n) (e : Ex H H') : Rng H' r n := by
  obtain ⟨d, s, c, a, b⟩ := h
  exact ⟨d, s, c, e _ _ a, b⟩
theorem Rng.le {H : Hp} {r : Addr} {n k : Nat} (h : Rng H r n) (l : n ≤ k) : Rng H r k := by
  obtain ⟨d, s, c, a, b1, b2, b3⟩ := h
  exact ⟨d, s, c, a, b1, b2, by omega⟩
/-- a tuple is no list: it stands elsewhere -/
theorem Rng.ne_tup {H : Hp} {r p : Addr} {n : Nat} {xs : List V} (h : Rng H r n) (t : H p = some (.tup xs)) : p ≠ r := by
  obtain ⟨d, s, c, a, _⟩ := h
  exact ne_of t a (fun z => by cases z)
theorem Bu.t {K : PySem.W.Frag} {r a : Addr} {n : Nat} {H H1 : Hp} {xs : List V} (e : Bu r H H1) (g : Rng H r n) (h : SqT K H a xs) : SqT K H1 a xs := by
  rcases h with (h | ⟨o, h⟩) | h
  · exact .inl (.inl (e _ _ (g.ne_tup h) h))
  · refine .inl (.inr ⟨o, e _ _ ?_ h⟩)
    obtain ⟨d, s, c, q, _⟩ := g
    exact ne_of h q (fun z => by cases z)
  · exact .inr h
theorem AtM.bu {K : PySem.W.Frag} {r p : Addr} {n : Nat} {H H1 : Hp} {m : Md} (e : Bu r H H1) (g : Rng H r n) (h : AtM K H p m) : AtM K H1 p m := by
  obtain ⟨q, a, b⟩ := h
  exact ⟨q, e.t g a, e.t g b⟩
def spDraw : Sp := fun vs H Q _ => ∃ r l n, vs = [.ref r, .int l] ∧ 0 < l ∧ l.natAbs.log2 < 9000 ∧ n < 2 ^ 60 ∧ Rng H r n ∧ ∀ H' v, Bu r H H' → Rng H' r (n + 1) → 0 ≤ v → v < l → Q (.int v) H'
def spRng (K : PySem.W.Frag) : Sp := fun vs H Q _ => ∃ (a : Addr) (ns : List Int), vs = [.ref a] ∧ SqL K H a (ns.map V.int) ∧ ns.length ≤ 63 ∧ ∀ r H', H r = none → Ex H H' → Rng H' r 0 → Q (.ref r) H'
theorem cut_mem {xs : List V} {lo hi : Option Int} {x : V} (h : x ∈ cutV xs lo hi) : x ∈ xs := by
  unfold cutV at h
  exact List.mem_of_mem_drop (List.mem_of_mem_take h)
theorem pow10_step (n : Nat) : (10 : Int) ^ (60 * (n + 1)) = 10 ^ (60 * n) * 10 ^ 60 := by
  rw [Nat.mul_succ, Int.pow_add]
theorem big10 : (10 : Nat) ^ 3780 ≤ 2 ^ 13000 := by decide +kernel
theorem pow10_bits {n : Nat} (h : n ≤ 63) {d : Int} (h0 : 0 ≤ d) (h1 : d < 10 ^ (60 * n)) : d.natAbs < 2 ^ 13000 := by
  have e1 : (10 : Nat) ^ (60 * n) ≤ 10 ^ 3780 := Nat.pow_le_pow_right (by decide) (by omega)
  have e2 : d.natAbs < 10 ^ (60 * n) := by
    have e3 : ((10 : Int) ^ (60 * n)) = ((10 ^ (60 * n) : Nat) : Int) := by
      rw [Int.natCast_pow]
      rfl
    rw [e3] at h1
    omega
  exact Nat.lt_of_lt_of_le e2 (Nat.le_trans e1 big10)
end Cf

namespace Cf
open PySem PySem.Spec PyProof.Rows L2 Evl

/-! ## repr of small data -/
mutual
def Sm : PyData → Prop
  | .none => True
  | .bool _ => True
  | .int i => i.natAbs < 2 ^ 140
  | .str x => x.cps.size ≤ 30 ∧ (x.cps.toList.all fun c => decide (c < 16 ^ 8)) = true
  | .list xs => SmAll xs
  | .tuple xs => SmAll xs
  | .dict _ => False
def SmAll : List PyData → Prop
  | [] => True
  | x :: xs => Sm x ∧ SmAll xs
end
mutual
def szD : PyData → Nat
  | .list xs => 1 + szAll xs
  | .tuple xs => 1 + szAll xs
  | _ => 1
def szAll : List PyData → Nat
  | [] => 0
  | x :: xs => szD x + szAll xs
end
theorem int_len {i : Int} (h : i.natAbs < 2 ^ 140) : (PyData.shown (.int i)).length ≤ 141 := by
  have h1 := int_text_length_le (a := i) (k := 140) (by decide) (PySem.Flt.log2_lt_of (by decide) h)
  simp only [PyData.shown]
  show (Str.ofString (toString i)).length ≤ 141
  have e : (Str.ofString (toString i)).length = (toString i).length := PySem.ofString_length _
  omega
mutual
theorem sm_all : ∀ d : PyData, Sm d → d.showable = true ∧ d.hasDict = false ∧ d.leavesShort 141 = true ∧ d.weight + 1 ≤ 142 * szD d
  | .none, _ => ⟨by simp only [PyData.showable], by simp only [PyData.hasDict], by simp only [PyData.leavesShort], by simp only [PyData.weight, szD]; omega⟩
  | .bool _, _ => ⟨by simp only [PyData.showable], by simp only [PyData.hasDict], by simp only [PyData.leavesShort], by simp only [PyData.weight, szD]; omega⟩
  | .int i, h => by
    have h1 : i.natAbs < 2 ^ 140 := h
    have h2 : i.natAbs.log2 < 140 := PySem.Flt.log2_lt_of (by decide) h1
    refine ⟨?_, by simp only [PyData.hasDict], ?_, ?_⟩
    · simp only [PyData.showable]
      exact decide_eq_true (by omega)
    · simp only [PyData.leavesShort]
      exact decide_eq_true (int_len h1)
    · simp only [PyData.weight, szD]
      split <;> omega
  | .str x, h => by
    have h1 : x.cps.size ≤ 30 ∧ (x.cps.toList.all fun c => decide (c < 16 ^ 8)) = true := h
    refine ⟨by simp only [PyData.showable], by simp only [PyData.hasDict], ?_, ?_⟩
    · simp only [PyData.leavesShort]
      exact h1.2
    · simp only [PyData.weight, szD]
      omega
  | .list xs, h => by
    obtain ⟨a, b, c, e⟩ := sm_alls xs h
    refine ⟨by simp only [PyData.showable]; exact a, by simp only [PyData.hasDict]; exact b, by simp only [PyData.leavesShort]; exact c, ?_⟩
    simp only [PyData.weight, szD]
    omega
  | .tuple xs, h => by
    obtain ⟨a, b, c, e⟩ := sm_alls xs h
    refine ⟨by simp only [PyData.showable]; exact a, by simp only [PyData.hasDict]; exact b, by simp only [PyData.leavesShort]; exact c, ?_⟩
    simp only [PyData.weight, szD]
    omega
  | .dict _, h => h.elim
theorem sm_alls : ∀ ds : List PyData, SmAll ds → PyData.showableAll ds = true ∧ PyData.hasDictAll ds = false ∧ PyData.leavesShortAll 141 ds = true ∧ PyData.weightAll ds ≤ 142 * szAll ds
  | [], _ => ⟨by simp only [PyData.showableAll], by simp only [PyData.hasDictAll], by simp only [PyData.leavesShortAll], by simp only [PyData.weightAll]; omega⟩
  | x :: xs, h => by
    obtain ⟨a1, b1, c1, e1⟩ := sm_all x h.1
    obtain ⟨a2, b2, c2, e2⟩ := sm_alls xs h.2
    refine ⟨by simp only [PyData.showableAll, a1, a2]; rfl, by simp only [PyData.hasDictAll, b1, b2]; rfl, by simp only [PyData.leavesShortAll, c1, c2]; rfl, ?_⟩
    simp only [PyData.weightAll, szAll]
    omega
end
theorem sm_len {d : PyData} (h : Sm d) (z : szD d ≤ 800) : d.shown.length ≤ sizeLine := by
  obtain ⟨_, _, c, e⟩ := sm_all d h
  have h1 := PyData.shown_le 141 (by decide) d c
  have h2 := sizeLine_eq
  omega
mutual
theorem dp_ex {K : PySem.W.Frag} {H H' : Hp} (e : Ex H H') : ∀ (d : PyData) (v : V), Dp K H v d → Dp K H' v d
  | .none, _, h => by
    cases h
    exact .non
  | .bool b, _, h => by
    cases h
    exact .bl b
  | .int i, _, h => by
    cases h
    exact .int i
  | .str x, _, h => by
    cases h
    exact .str x
  | .list ds, _, h => by
    cases h with
    | lst a b => exact .lst (ex_l e a) (dps_ex e ds _ b)
  | .tuple ds, _, h => by
    cases h with
    | tup a b => exact .tup (ex_t e a) (dps_ex e ds _ b)
  | .dict _, _, h => nomatch h
theorem dps_ex {K : PySem.W.Frag} {H H' : Hp} (e : Ex H H') : ∀ (ds : List PyData) (vs : List V), DpAll K H vs ds → DpAll K H' vs ds
  | [], _, h => by
    cases h
    exact .nil
  | x :: xs, _, h => by
    cases h with
    | cons a b => exact .cons (dp_ex e x _ a) (dps_ex e xs _ b)
end
section
variable {K : PySem.W.Frag} {σ : L2.St} {H : Hp} {ta : TE} {a : Addr} {d : PyData} {xs : List V}
theorem ev_repr (ha : Ev ta σ H (.ref a)) (hd : Dp K H (.ref a) d) (hs : Sm d) (hz : szD d ≤ 800) (hp : d.depth ≤ 60) : Ev (tCB (rRepr K) (tCons ta tNil)) σ H (.str d.shown) := fun H1 e Q q =>
  ha H1 e _ fun H2 e2 => ⟨a, d, rfl, dp_ex (e.trans e2) d _ hd, (sm_all d hs).1, (sm_all d hs).2.1, sm_len hs hz, hp, q H2 e2⟩
theorem ev_reprN (ha : EvL ta σ H xs) (hd : ∀ H1, Ex H H1 → DpAll K H1 xs (match d with | .list ds => ds | _ => [])) (hl : ∃ ds, d = .list ds) (hs : Sm d) (hz : szD d ≤ 800) (hp : d.depth ≤ 60) :
    Ev (tCB (rRepr K) (tCons ta tNil)) σ H (.str d.shown) := fun H1 e Q q =>
  ha H1 e _ fun p H2 _ e2 h2 => by
    obtain ⟨ds, rfl⟩ := hl
    exact ⟨p, .list ds, rfl, .lst (sq_of h2) (hd H2 (e.trans e2)), (sm_all _ hs).1, (sm_all _ hs).2.1, sm_len hs hz, hp, q H2 e2⟩
theorem dp_ints {H : Hp} : ∀ ns : List Int, DpAll K H (ns.map V.int) (ns.map PyData.int)
  | [] => .nil
  | n :: ns => .cons (.int n) (dp_ints ns)
theorem AtM.dp {p : Addr} {m : Md} (h : AtM K H p m) : Dp K H (.ref p) (.tuple [.tuple (m.ns.map PyData.int), .str (plS m.u)]) := by
  obtain ⟨q, a, b⟩ := h
  exact .tup a (.cons (.tup b (dp_ints _)) (.cons (.str _) .nil))
theorem Md.sm {m : Md} (h : m.Ok) : Sm (.tuple [.tuple (m.ns.map PyData.int), .str (plS m.u)]) := by
  obtain ⟨h0, h1, h2, h3, h4, h5⟩ := h
  have hs : Sm (.str (plS m.u)) := by
    cases m.u
    · exact ⟨by decide, by decide⟩
    · exact ⟨by decide, by decide⟩
  refine ⟨⟨?_, ?_, ?_, ?_, ?_, trivial⟩, hs, trivial⟩
  · show ((m.w0 : Nat) : Int).natAbs < 2 ^ 140
    omega
  · show ((m.w1 : Nat) : Int).natAbs < 2 ^ 140
    omega
  · show ((m.w2 : Nat) : Int).natAbs < 2 ^ 140
    omega
  · show ((m.w3 : Nat) : Int).natAbs < 2 ^ 140
    omega
  · show ((m.w4 : Nat) : Int).natAbs < 2 ^ 140
    omega
end
end Cf

namespace Cf
open PySem PySem.Spec PyProof.Rows L2 Evl
section
variable {K : PySem.W.Frag} {σ : L2.St} {H : Hp} {ta tb tc te : TE} {tr tk : TA} {x z : V} {xs zs : List V} {a b c : Int} {sp : Sp} {m : Nat} {gV : List V → List V} {E : XK}
theorem ev_kw (h : EvA tk σ H zs) (hl : zs.length = m) (hs : SpV sp (gV zs) H z) : Ev (tKw m sp gV E tk) σ H z := fun H1 e Q q =>
  h H1 e _ fun H2 e2 => ⟨hl, hs H2 (e.trans e2) Q (fun H3 e3 => q H3 (e2.trans e3)) E⟩
theorem eu_kw (h : EvA tk σ H zs) (hl : zs.length = m) (hs : SpU sp (gV zs) H xs) : EvU (tKw m sp gV E tk) σ H xs := fun H1 e Q q =>
  h H1 e _ fun H2 e2 => ⟨hl, hs H2 (e.trans e2) Q (fun p H3 hp e3 h3 => q p H3 (fresh_back e2 hp) (e2.trans e3) h3) E⟩
theorem ea_at {Q : List V → Hp → Prop} (h : Ev te σ H x) (k : ∀ H1, Ex H H1 → tr σ H1 fun xs H2 => Q (x :: xs) H2) : tCons te tr σ H Q := h H (Ex.refl H) _ k
theorem ea_atU {Q : List V → Hp → Prop} (h : EvU te σ H xs) (k : ∀ p H1, H p = none → Ex H H1 → H1 p = some (.tup xs) → tr σ H1 fun ys H2 => Q (.ref p :: ys) H2) : tCons te tr σ H Q := h H (Ex.refl H) _ k
theorem ea_atL {Q : List V → Hp → Prop} (h : EvL te σ H xs) (k : ∀ p H1, H p = none → Ex H H1 → H1 p = some (.lst xs) → tr σ H1 fun ys H2 => Q (.ref p :: ys) H2) : tCons te tr σ H Q := h H (Ex.refl H) _ k
theorem ev_chLe (ha : Ev ta σ H (.int a)) (hb : Ev tb σ H (.int b)) (hc : Ev tc σ H (.int c)) :
    Ev (tChain (rI0 fun i j => .bl (decide (i ≤ j))) (rI0 fun i j => .bl (decide (i ≤ j))) ta tb tc) σ H (.bl (decide (a ≤ b ∧ b ≤ c))) := fun H1 e Q q =>
  ha H1 e _ fun H2 e2 => hb H2 (e.trans e2) _ fun H3 e3 => ⟨a, b, rfl, rfl, _, rfl, by
    have e4 := (e.trans e2).trans e3
    by_cases h1 : a ≤ b
    · rw [decide_eq_true h1]
      refine iteT (hc H3 e4 _ fun H4 e5 => ⟨b, c, rfl, rfl, ?_⟩)
      have e6 : decide (b ≤ c) = decide (a ≤ b ∧ b ≤ c) := by
        by_cases h2 : b ≤ c
        · rw [decide_eq_true h2, decide_eq_true ⟨h1, h2⟩]
        · rw [decide_eq_false h2, decide_eq_false fun z => h2 z.2]
      show Q (.bl (decide (b ≤ c))) H4
      rw [e6]
      exact q H4 ((e2.trans e3).trans e5)
    · rw [decide_eq_false h1]
      refine iteF ?_
      have e6 : decide (a ≤ b ∧ b ≤ c) = false := decide_eq_false fun z => h1 z.1
      rw [e6] at q
      exact q H3 (e2.trans e3)⟩
theorem q_par {tz : TS} {D : Ends} {i j : Nat} {y : V} (ha : Ev ta σ H x) (hb : Ev tb σ H y) (k : ∀ H1, Ex H H1 → tz D ((σ.set i (some x)).set j (some y)) H1) : tSeq (tPar i j (tCons ta (tCons tb tNil))) tz D σ H :=
  ha H (Ex.refl H) _ fun H1 e1 => hb H1 e1 _ fun H2 e2 => ⟨x, y, rfl, k H2 (e1.trans e2)⟩
theorem q_raw {tz : TS} {D : Ends} {i : Nat} (h : te σ H fun x H1 => tz D (σ.set i (some x)) H1) : tSeq (tAsg te (gName i)) tz D σ H := h
theorem lst_raw {Q : VK} (h : tr σ H fun xs H1 => xs.length ≤ sizeLine ∧ ∀ p, H1 p = none → Q (.ref p) (upd H1 p (.lst xs))) : tLst tr σ H Q := h
theorem tup_raw {Q : VK} (h : tr σ H fun xs H1 => xs.length ≤ sizeLine ∧ ∀ p, H1 p = none → Q (.ref p) (upd H1 p (.tup xs))) : tTup tr σ H Q := h
theorem ev_reprL {ds : List PyData} (ha : EvL ta σ H xs) (hd : ∀ H1, Ex H H1 → DpAll K H1 xs ds) (hs : SmAll ds) (hz : szD (.list ds) ≤ 800) (hp : (PyData.list ds).depth ≤ 60) :
    Ev (tCB (rRepr K) (tCons ta tNil)) σ H (.str (PyData.shown (.list ds))) := fun H1 e Q q =>
  ha H1 e _ fun p H2 _ e2 h2 => ⟨p, .list ds, rfl, .lst (sq_of h2) (hd H2 (e.trans e2)), (sm_all (.list ds) hs).1, (sm_all (.list ds) hs).2.1, sm_len (d := .list ds) hs hz, hp, q H2 e2⟩
theorem q_newL {t u : TS} {D : Ends} {p : Addr} (n : H p = none) (k : ∀ H', Ex H H' → H' p = some (.lst xs) → tSeq t u D σ H') : tSeq t u D σ (upd H p (.lst xs)) := k _ (Ex.new n) upd_same
theorem q_newT {t u : TS} {D : Ends} {p : Addr} (n : H p = none) (k : ∀ H', Ex H H' → H' p = some (.tup xs) → tSeq t u D σ H') : tSeq t u D σ (upd H p (.tup xs)) := k _ (Ex.new n) upd_same
theorem op_raw {r : R2} {Q : VK} (h : ta σ H fun x H1 => tb σ H1 fun y H2 => r x y H2 Q) : tOp r ta tb σ H Q := h
theorem test_raw {Q : Bool → Hp → Prop} (h : te σ H fun x H' => ∃ k, x = .bl k ∧ Q k H') : tTest te σ H Q := h
theorem if_raw {t : TT} {u v : TS} {D : Ends} (h : t σ H fun b H1 => if b = true then u D σ H1 else v D σ H1) : tIfS t u v D σ H := h
theorem lc_go {g : TG} {tt : TT} {vs : List Nat} {Q : VK} (hl : EvL ta σ H xs) (Pv : Addr → Addr → Nat → Hp → Prop)
    (h0 : ∀ a D H1, H a = none → Ex H H1 → H1 a = some (.lst xs) → H1 D = none → Pv a D 0 (upd H1 D (.lst [])))
    (hk : ∀ a D i H', i ≤ xs.length → Pv a D i H' → SqL K H' a xs)
    (hs : ∀ a D i x H', xs[i]? = some x → Pv a D i H' → g x (wipe σ vs) H' fun σ2 H2 => wipe σ2 vs = wipe σ vs ∧ tt σ2 H2 fun b H3 =>
      if b = true then te σ2 H3 fun y H4 => ∃ acc, H4 D = some (.lst acc) ∧ acc.length < sizeLine ∧ Pv a D (i + 1) (upd H4 D (.lst (acc ++ [y]))) else Pv a D (i + 1) H3)
    (hd : ∀ a D H', Pv a D xs.length H' → Q (.ref D) H') : tLc (iList K ta) g tt te vs σ H Q :=
  hl H (Ex.refl H) _ fun a H1 n1 e1 h1 => ⟨a, rfl, ⟨xs, sq_of h1⟩, fun D nD => lc_list (Pv a D) (h0 a D H1 n1 e1 h1 nD) (hk a D) (hs a D) (hd a D)⟩
theorem ev_pair {d e : PyData} (h1 : Ev ta σ H (.str d.shown)) (h2 : Ev tb σ H (.str e.shown)) (h : d = e) : Ev (tOp rNe ta tb) σ H (.bl false) := by
  subst h
  refine ev_is (ev_op h1 h2 (rv_ne rfl)) ?_
  rw [decide_eq_true rfl]
  rfl
end
def gV2 : List V → List V
  | [a, b] => [b, a]
  | _ => []
def gU2 : List Value → List Value
  | [a, b] => [b, a]
  | _ => []
def gV3 : List V → List V
  | [a, b, c] => [c, b, a]
  | _ => []
def gU3 : List Value → List Value
  | [a, b, c] => [c, b, a]
  | _ => []
theorem g2_rel : ∀ {zs : List V} {ws : List Value}, zs.length = 2 → Vals zs ws → Vals (gV2 zs) (gU2 ws)
  | [_, _], [_, _], _, .cons a (.cons b .nil) => .cons b (.cons a .nil)
theorem g3_rel : ∀ {zs : List V} {ws : List Value}, zs.length = 3 → Vals zs ws → Vals (gV3 zs) (gU3 ws)
  | [_, _, _], [_, _, _], _, .cons a (.cons b (.cons c .nil)) => .cons c (.cons b (.cons a .nil))
end Cf

namespace Cf
open PySem PySem.Spec PyProof.Rows L2 Evl
theorem shl1 {b : Nat} {σ : L2.St} {H : Hp} (h : b ≤ 128) {ta tb : TE} (ha : Ev ta σ H (.int 1)) (hb : Ev tb σ H (.int (b : Int))) : Ev (tOp (rI CPow fun i j => .int (i * 2 ^ j.toNat)) ta tb) σ H (.int (2 ^ b)) := by
  refine ev_is (ev_op ha hb (rv_I ⟨by omega, by omega, by decide⟩)) ?_
  rw [Int.toNat_natCast, Int.one_mul]

theorem small_log {i : Int} {n : Nat} (hn : 0 < n) (h : i.natAbs < 2 ^ n) (h2 : n ≤ 90000) : CPowW i 3 := ⟨by decide, by decide, by
  have := PySem.Flt.log2_lt_of hn h
  omega⟩

def preNil (xs : List V) : List V → Hp → List V → Prop := fun vs H ys => vs = [] ∧ ys = xs
theorem PL.sp {pre : List V → Hp → List V → Prop} {vs xs : List V} {H : Hp} (h : ∀ H1, Ex H H1 → pre vs H1 xs) : SpL (PL pre) vs H xs := fun H1 e Q q E => ⟨xs, h H1 e, q⟩
def preKv (g : Kd → V) : List V → Hp → V → Prop := fun vs H v => ∃ k : Kd, vs = [k.v] ∧ v = g k
theorem spKv {g : Kd → V} {H : Hp} {k : Kd} : SpV (PV (preKv g)) [k.v] H (g k) := PV.sp fun H1 e => ⟨k, rfl, rfl⟩
def Kd.ix : Kd → Nat
  | .ch => 0 | .sc => 1 | .uc => 2 | .sh => 3 | .us => 4 | .it => 5 | .ui => 6 | .lo => 7 | .ul => 8 | .wi => 9 | .uw => 10
theorem kd_at : ∀ {m : Nat} {z : V}, vKINDS[m]? = some z → ∃ k : Kd, k.ix = m ∧ z = k.v
  | 0, _, h => ⟨.ch, rfl, (Option.some.inj h).symm⟩
  | 1, _, h => ⟨.sc, rfl, (Option.some.inj h).symm⟩
  | 2, _, h => ⟨.uc, rfl, (Option.some.inj h).symm⟩
  | 3, _, h => ⟨.sh, rfl, (Option.some.inj h).symm⟩
  | 4, _, h => ⟨.us, rfl, (Option.some.inj h).symm⟩
  | 5, _, h => ⟨.it, rfl, (Option.some.inj h).symm⟩
  | 6, _, h => ⟨.ui, rfl, (Option.some.inj h).symm⟩
  | 7, _, h => ⟨.lo, rfl, (Option.some.inj h).symm⟩
  | 8, _, h => ⟨.ul, rfl, (Option.some.inj h).symm⟩
  | 9, _, h => ⟨.wi, rfl, (Option.some.inj h).symm⟩
  | 10, _, h => ⟨.uw, rfl, (Option.some.inj h).symm⟩
  | _ + 11, _, h => nomatch h
theorem kd_eq (k l : Kd) : eqV k.v l.v = decide (k = l) := by cases k <;> cases l <;> rfl
/-- xs.index(k) in the list of all types -/
theorem ev_index {K : PySem.W.Frag} {σ : L2.St} {H : Hp} {ta tb : TE} {k : Kd} (ha : EvL ta σ H vKINDS) (hb : ∀ H1, Ex H H1 → Ev tb σ H1 k.v) : Ev (tBM K "list" (rIndex K) ta (tCons tb tNil)) σ H (.int (k.ix : Nat)) := fun H1 e Q q =>
  ha H1 e _ fun p H2 _ e2 h2 => ⟨.inl ⟨rfl, _, sq_of h2⟩, hb H2 (e.trans e2) H2 (Ex.refl H2) _ fun H3 e3 =>
    ⟨p, vKINDS, k.v, k.ix, k.v, rfl, rfl, sq_of (e3 _ _ h2), rfl, rfl, by cases k <;> rfl, by rw [kd_eq]; exact decide_eq_true rfl, fun m z hm hz => by
      obtain ⟨k2, e4, rfl⟩ := kd_at hz
      rw [kd_eq]
      refine decide_eq_false fun e5 => ?_
      subst e5
      omega, q H3 (e2.trans e3)⟩⟩

theorem draw_at {σ : L2.St} {H : Hp} {ta : TA} {r : Addr} {l : Int} {n : Nat} {E : XK} {Q : VK} (h : EvA ta σ H [.ref r, .int l]) (l0 : 0 < l) (l1 : l.natAbs.log2 < 9000) (hn : n < 2 ^ 60) (g : Rng H r n)
    (k : ∀ H' v, Bu r H H' → Rng H' r (n + 1) → 0 ≤ v → v < l → Q (.int v) H') : tCall spDraw [] E ta σ H Q :=
  h H (Ex.refl H) _ fun H1 e1 => ⟨r, l, n, rfl, l0, l1, hn, g.ex e1, fun H' v b g2 v0 v1 => k H' v ((Bu.of e1).trans b) g2 v0 v1⟩
theorem log_small {l : Int} (h : l.natAbs < 2 ^ 200) : l.natAbs.log2 < 9000 := by
  have := PySem.Flt.log2_lt_of (by decide : 0 < 200) h
  omega
/-- widths so far: they ascend from low, the last is at most here -/
def Asc : Int → List Int → Int → Prop
  | low, [], here => low ≤ here
  | low, x :: xs, here => low ≤ x ∧ Asc x xs here
theorem Asc.le : ∀ {low : Int} {xs : List Int} {here : Int}, Asc low xs here → low ≤ here
  | _, [], _, h => h
  | _, x :: xs, _, h => Int.le_trans h.1 (Asc.le h.2)
theorem Asc.add : ∀ {low : Int} {xs : List Int} {here h2 : Int}, Asc low xs here → here ≤ h2 → Asc low (xs ++ [h2]) h2
  | _, [], _, _, h, h' => ⟨Int.le_trans h h', Int.le_refl _⟩
  | _, x :: xs, _, _, h, h' => ⟨h.1, Asc.add h.2 h'⟩
def spScheme (K : PySem.W.Frag) : Sp := fun vs H Q _ => ∃ r low top n, vs = [.ref r, .int low, .int top] ∧ 2 ≤ low ∧ low ≤ top ∧ top ≤ 128 ∧ n < 2 ^ 50 ∧ Rng H r n ∧
  ∀ p H' m, Bu r H H' → Rng H' r (n + 20) → AtM K H' p m → m.Ok → low ≤ m.w0 → (m.w4 : Int) ≤ top → Q (.ref p) H'

theorem Md.small (m : Md) (h : m.Ok) (k : Kd) : (m.low k).natAbs < 2 ^ 140 ∧ (m.high k).natAbs < 2 ^ 140 := by
  obtain ⟨b0, b1⟩ := h.b k
  have key : ∀ n : Nat, n ≤ 128 → (2 : Int) ^ n ≤ 2 ^ 128 ∧ 1 ≤ (2 : Int) ^ n := fun n hn => by
    have e1 : ((2 : Int) ^ n) = ((2 ^ n : Nat) : Int) := by
      rw [Int.natCast_pow]
      rfl
    have e2 : (2 : Nat) ^ n ≤ 2 ^ 128 := Nat.pow_le_pow_right (by decide) hn
    have e3 : 1 ≤ (2 : Nat) ^ n := Nat.one_le_two_pow
    rw [e1]
    omega
  obtain ⟨k1, k2⟩ := key (m.b k) b1
  obtain ⟨k3, k4⟩ := key (m.b k - 1) (by omega)
  unfold Md.low Md.high
  split <;> omega

theorem pick2 {K : PySem.W.Frag} {σ : L2.St} {H : Hp} {r : Addr} {a b : Int} {n j : Nat} {E : XK} {Q : VK} (g : Rng H r n) (hn : n < 2 ^ 60) (hj : σ[j]? = some (some (.ref r))) (k : ∀ H' x, Bu r H H' → Rng H' r (n + 1) → (x = a ∨ x = b) → Q (.int x) H') :
    tOp (rIxL K) (tLst (tCons (tC (.int a)) (tCons (tC (.int b)) tNil))) (tCall spDraw [] E (tCons (tVar j) (tCons (tC (.int 2)) tNil))) σ H Q := by
  refine ⟨by show 2 ≤ sizeLine; decide, fun t nt => ?_⟩
  have e1 : Ex H (upd H t (.lst [.int a, .int b])) := Ex.new nt
  have htr : t ≠ r := by
    obtain ⟨d, s2, c, q, _⟩ := g
    exact fun z => by
      rw [z, q] at nt
      cases nt
  refine draw_at (l := 2) (n := n) (ea_cons (ev_var hj) (ea_cons ev_c ea_nil)) (by decide) (log_small (by decide)) hn (g.ex e1) fun H2 v b2 g2 v0 v1 => ?_
  have h2 : H2 t = some (.lst [.int a, .int b]) := b2 _ _ htr upd_same
  have hv : v = 0 ∨ v = 1 := by omega
  rcases hv with rfl | rfl
  · exact ⟨t, _, 0, _, rfl, rfl, sq_of h2, atI_nat (j := 0) rfl, k H2 a ((Bu.of e1).trans b2) g2 (.inl rfl)⟩
  · exact ⟨t, _, 1, _, rfl, rfl, sq_of h2, atI_nat (j := 1) rfl, k H2 b ((Bu.of e1).trans b2) g2 (.inr rfl)⟩
def spLaw (K : PySem.W.Frag) : Sp := fun vs H Q _ => ∃ (a : Addr) (ns : List Int), vs = [.ref a] ∧ SqL K H a (ns.map V.int) ∧ ns.length ≤ 63 ∧ ∀ H', Q (.bl true) H'
theorem rv_eqDT {K : PySem.W.Frag} {H : Hp} {p q : Addr} {d e : PyData} (hd : ∀ H1, Ex H H1 → Dp K H1 (.ref p) d) (he : ∀ H1, Ex H H1 → Dp K H1 (.ref q) e) (sd : SeqAt.shaped d = true) (se : SeqAt.shaped e = true) {b : Bool} (hb : PyData.eqv d e = b) :
    RV (rEqD K) (.ref p) (.ref q) H (.bl b) := fun H1 e1 Q q => ⟨d, e, hd H1 e1, he H1 e1, sd, se, by rw [hb]; exact q H1 (Ex.refl H1)⟩

end Cf

namespace Cf
open PySem PySem.Spec PyProof.Rows L2 Evl
/-! ## promotion, common types -/
def uKd : Nat → Kd
  | 0 => .uc | 1 => .us | 2 => .ui | 3 => .ul | _ => .uw
def sKd : Nat → Kd
  | 2 => .it | 3 => .lo | _ => .wi
def Md.prom (m : Md) (k : Kd) : Kd := if 2 ≤ k.rk then k else if m.un k = true ∧ m.b .it ≤ m.b k then .ui else .it
def Md.mix (m : Md) (u s : Kd) : Kd := if s.rk ≤ u.rk then u else if m.b u < m.b s then s else uKd s.rk
def Md.com2 (m : Md) (a b : Kd) : Kd := if m.un a = m.un b then (if b.rk ≤ a.rk then a else b) else if m.un a = true then m.mix a b else m.mix b a
def Md.com (m : Md) (k l : Kd) : Kd := m.com2 (m.prom k) (m.prom l)
/-- the six promoted types -/
def Kd.big (k : Kd) : Prop := k = .it ∨ k = .ui ∨ k = .lo ∨ k = .ul ∨ k = .wi ∨ k = .uw
theorem Md.prom_big (m : Md) (k : Kd) : (m.prom k).big := by
  unfold Md.prom
  by_cases h : 2 ≤ k.rk
  · rw [if_pos h]
    revert h
    unfold Kd.big
    cases k <;> decide
  · rw [if_neg h]
    by_cases h2 : m.un k = true ∧ m.b .it ≤ m.b k
    · rw [if_pos h2]
      exact .inr (.inl rfl)
    · rw [if_neg h2]
      exact .inl rfl
/-- a pure def's promise over a model at p and types -/
theorem ev_mk {K : PySem.W.Frag} {σ : L2.St} {H : Hp} {p : Addr} {m : Md} {k : Kd} {g : Md → Kd → V} {i j : Nat} (a : AtM K H p m) (o : m.Ok) (hi : σ[i]? = some (some (.ref p))) (hj : σ[j]? = some (some k.v)) :
    Ev (tCall (PV (preMK K g)) [] E0 (tCons (tVar i) (tCons (tVar j) tNil))) σ H (g m k) := ev_call (ea_cons (ev_var hi) (ea_cons (ev_var hj) ea_nil)) (spMK a o)
/-- RANKS[k] -/
def tRk (K : PySem.W.Frag) (w : World) (aR : Addr) (tk : TE) : TE := tOp (rIxD K w) (tC (.ref aR)) tk
theorem ev_rk {K : PySem.W.Frag} {w : World} {aR : Addr} (tR : ∀ k : Kd, KDct K w aR k.s (.int k.rk)) {σ : L2.St} {H : Hp} {tk : TE} {k : Kd} (h : Ev tk σ H k.v) : Ev (tOp (rIxD K w) (tC (.ref aR)) tk) σ H (.int (k.rk : Nat)) :=
  ev_op ev_c h fun H1 _ Q1 q1 => ⟨aR, k.s, _, rfl, rfl, tR k, q1 H1 (Ex.refl H1)⟩
theorem pick3 {K : PySem.W.Frag} {σ : L2.St} {H : Hp} {r : Addr} {a b c : Int} {n j : Nat} {E : XK} {Q : VK} (g : Rng H r n) (hn : n < 2 ^ 60) (hj : σ[j]? = some (some (.ref r))) (k : ∀ H' x, Bu r H H' → Rng H' r (n + 1) → (x = a ∨ x = b ∨ x = c) → Q (.int x) H') :
    tOp (rIxL K) (tLst (tCons (tC (.int a)) (tCons (tC (.int b)) (tCons (tC (.int c)) tNil)))) (tCall spDraw [] E (tCons (tVar j) (tCons (tC (.int 3)) tNil))) σ H Q := by
  refine ⟨by show 3 ≤ sizeLine; decide, fun t nt => ?_⟩
  have e1 : Ex H (upd H t (.lst [.int a, .int b, .int c])) := Ex.new nt
  have htr : t ≠ r := by
    obtain ⟨d, s2, c, q, _⟩ := g
    exact fun z => by
      rw [z, q] at nt
      cases nt
  refine draw_at (l := 3) (n := n) (ea_cons (ev_var hj) (ea_cons ev_c ea_nil)) (by decide) (log_small (by decide)) hn (g.ex e1) fun H2 v b2 g2 v0 v1 => ?_
  have h2 : H2 t = some (.lst [.int a, .int b, .int c]) := b2 _ _ htr upd_same
  have hv : v = 0 ∨ v = 1 ∨ v = 2 := by omega
  rcases hv with rfl | rfl | rfl
  · exact ⟨t, _, 0, _, rfl, rfl, sq_of h2, atI_nat (j := 0) rfl, k H2 a ((Bu.of e1).trans b2) g2 (.inl rfl)⟩
  · exact ⟨t, _, 1, _, rfl, rfl, sq_of h2, atI_nat (j := 1) rfl, k H2 b ((Bu.of e1).trans b2) g2 (.inr (.inl rfl))⟩
  · exact ⟨t, _, 2, _, rfl, rfl, sq_of h2, atI_nat (j := 2) rfl, k H2 c ((Bu.of e1).trans b2) g2 (.inr (.inr rfl))⟩
/-! ### the law's own way -/
def lawOf (r : Nat) (s : Bool) : Kd := if s = true then sKd r else uKd r
def Md.lawCom (m : Md) (a b : Kd) : Kd :=
  if (!m.un a) = (!m.un b) then lawOf (max a.rk b.rk) (!m.un a)
  else lawOf (max a.rk b.rk) (decide ((if (!(!m.un a)) = true then a else b).rk < max a.rk b.rk) && decide (m.w (if (!(!m.un a)) = true then a else b).rk < m.w (max a.rk b.rk)))
theorem Md.lawCom_eq (m : Md) {a b : Kd} (ha : a.big) (hb : b.big) : m.lawCom a b = m.com2 a b := by
  rcases ha with rfl | rfl | rfl | rfl | rfl | rfl <;> rcases hb with rfl | rfl | rfl | rfl | rfl | rfl <;>
    simp [Md.lawCom, Md.com2, Md.mix, Md.un, Kd.rk, lawOf, sKd, uKd, Md.b, Md.w]
theorem big_rk {k : Kd} (h : k.big) : 2 ≤ k.rk ∧ k.rk ≤ 4 := by
  rcases h with rfl | rfl | rfl | rfl | rfl | rfl <;> decide
def preOf : List V → Hp → V → Prop := fun vs H v => ∃ (r : Nat) (s : Bool), vs = [.int r, .bl s] ∧ 2 ≤ r ∧ r ≤ 4 ∧ v = (lawOf r s).v
theorem spOf {H : Hp} {r : Nat} {s : Bool} (h0 : 2 ≤ r) (h1 : r ≤ 4) : SpV (PV preOf) [.int r, .bl s] H (lawOf r s).v := PV.sp fun H1 e => ⟨r, s, rfl, h0, h1, rfl⟩
def preM1 (K : PySem.W.Frag) (v : V) : List V → Hp → V → Prop := fun vs H z => ∃ p m, vs = [.ref p] ∧ AtM K H p m ∧ m.Ok ∧ z = v
theorem spM1 {K : PySem.W.Frag} {H : Hp} {p : Addr} {m : Md} {v : V} (a : AtM K H p m) (o : m.Ok) : SpV (PV (preM1 K v)) [.ref p] H v := PV.sp fun H1 e => ⟨p, m, rfl, a.ex e, o, rfl⟩
/-- != of two new lists that hold the same -/
theorem ev_neL {K : PySem.W.Frag} {σ : L2.St} {H : Hp} {ta tb : TE} {xs ys : List V} {ds : List PyData} (ha : EvL ta σ H xs) (hb : EvL tb σ H ys) (hx : ∀ H1, Ex H H1 → DpAll K H1 xs ds) (hy : ∀ H1, Ex H H1 → DpAll K H1 ys ds)
    (hs : SeqAt.shaped (.list ds) = true) (he : PyData.eqv (.list ds) (.list ds) = true) : Ev (tOp (rNeD K) ta tb) σ H (.bl false) :=
  ev_opLL ha hb fun p q H1 hp hq e => fun H2 e2 Q k => ⟨.list ds, .list ds, .lst (sq_of (e2 _ _ hp)) (hx H2 (e.trans e2)), .lst (sq_of (e2 _ _ hq)) (hy H2 (e.trans e2)), hs, hs, by rw [he]; exact k H2 (Ex.refl H2)⟩
theorem ev_eqL {K : PySem.W.Frag} {σ : L2.St} {H : Hp} {ta tb : TE} {a : Addr} {ys : List V} {ds : List PyData} (ha : Ev ta σ H (.ref a)) (hb : EvL tb σ H ys) (hx : ∀ H1, Ex H H1 → Dp K H1 (.ref a) (.list ds)) (hy : ∀ H1, Ex H H1 → DpAll K H1 ys ds)
    (hs : SeqAt.shaped (.list ds) = true) (he : PyData.eqv (.list ds) (.list ds) = true) : Ev (tOp (rEqD K) ta tb) σ H (.bl true) :=
  ev_opL ha hb fun q H1 hq e => fun H2 e2 Q k => ⟨.list ds, .list ds, hx H2 (e.trans e2), .lst (sq_of (e2 _ _ hq)) (hy H2 (e.trans e2)), hs, hs, by rw [he]; exact k H2 (Ex.refl H2)⟩
theorem dp_kd {K : PySem.W.Frag} {H : Hp} : ∀ ks : List Kd, DpAll K H (ks.map Kd.v) (ks.map fun k => .str k.s)
  | [] => .nil
  | k :: ks => .cons (.str _) (dp_kd ks)
theorem kd_eqs : ∀ k : Kd, PyData.eqv (.str k.s) (.str k.s) = true := fun k => by cases k <;> rfl
theorem eqv_kd : ∀ ks : List Kd, PyData.eqvAll (ks.map fun k => .str k.s) (ks.map fun k => .str k.s) = true
  | [] => rfl
  | k :: ks => by
    show (PyData.eqv (.str k.s) (.str k.s) && PyData.eqvAll _ _) = true
    rw [kd_eqs k, eqv_kd ks]
    rfl
theorem Md.com_comm (m : Md) (k l : Kd) : m.com k l = m.com l k := by
  unfold Md.com
  have ha := m.prom_big k
  have hb := m.prom_big l
  generalize m.prom k = a at ha ⊢
  generalize m.prom l = b at hb ⊢
  rcases ha with rfl | rfl | rfl | rfl | rfl | rfl <;> rcases hb with rfl | rfl | rfl | rfl | rfl | rfl <;>
    simp [Md.com2, Md.mix, Md.un, Kd.rk]
/-- a list comprehension's or a loop's list of all types, made anew -/
theorem el_labels {σ : L2.St} {H : Hp} : EvL (tCall (PL (preNil vKINDS)) [] E0 tNil) σ H vKINDS := el_call ea_nil (PL.sp fun H7 e7 => ⟨rfl, rfl⟩)
def kdD (ks : List Kd) : List PyData := ks.map fun k => .str k.s
theorem kdl_lay : ∀ ks : List Kd, PyData.canLayAll0 (kdD ks) = true
  | [] => by simp [kdD, PyData.canLayAll0]
  | k :: ks => by
    have ih := kdl_lay ks
    have hk : PyData.strOk k.s = true := by cases k <;> decide +kernel
    unfold kdD at ih ⊢
    simp [PyData.canLayAll0, PyData.canLay0, ih, hk]
theorem kdl_depth : ∀ ks : List Kd, PyData.depthAll (kdD ks) ≤ 2
  | [] => by simp [kdD, PyData.depthAll]
  | k :: ks => by
    have ih := kdl_depth ks
    unfold kdD at ih ⊢
    simp only [List.map_cons, PyData.depthAll, PyData.depth]
    omega
theorem kdl_shaped (ks : List Kd) : SeqAt.shaped (.list (kdD ks)) = true := by
  have h1 := kdl_depth ks
  show (PyData.canLay0 (.list (kdD ks)) && decide (PyData.depth (.list (kdD ks)) ≤ 64)) = true
  rw [Bool.and_eq_true]
  refine ⟨by simp only [PyData.canLay0]; exact kdl_lay ks, decide_eq_true ?_⟩
  simp only [PyData.depth]
  omega
theorem kdl_eqv (ks : List Kd) : PyData.eqv (.list (kdD ks)) (.list (kdD ks)) = true := by
  simp only [PyData.eqv]
  exact eqv_kd ks
theorem ev_neK {K : PySem.W.Frag} {σ : L2.St} {H : Hp} {ta tb : TE} {xs ys : List V} (ks : List Kd) (ha : EvL ta σ H xs) (hb : EvL tb σ H ys) (hx : xs = ks.map Kd.v := by rfl) (hy : ys = ks.map Kd.v := by rfl) : Ev (tOp (rNeD K) ta tb) σ H (.bl false) := by
  subst hx hy
  exact ev_neL (ds := kdD ks) ha hb (fun _ _ => dp_kd ks) (fun _ _ => dp_kd ks) (kdl_shaped ks) (kdl_eqv ks)
theorem ev_eqK {K : PySem.W.Frag} {σ : L2.St} {H : Hp} {ta tb : TE} {a : Addr} {xs ys : List V} (ks : List Kd) (ha : Ev ta σ H (.ref a)) (hb : EvL tb σ H ys) (hl : SqL K H a xs) (hx : xs = ks.map Kd.v := by rfl) (hy : ys = ks.map Kd.v := by rfl) : Ev (tOp (rEqD K) ta tb) σ H (.bl true) := by
  subst hx hy
  exact ev_eqL (ds := kdD ks) ha hb (fun _ e => .lst (ex_l e hl) (dp_kd ks)) (fun _ _ => dp_kd ks) (kdl_shaped ks) (kdl_eqv ks)
end Cf

namespace Cf
open PySem PySem.Spec PyProof.Rows L2 Evl
/-! ## conversion -/
def Md.conv (m : Md) (k : Kd) (i : Int) : Int := (i - m.low k) % (m.high k - m.low k + 1) + m.low k
theorem p2 (n : Nat) : (0 : Int) < 2 ^ n := Int.pow_pos (by decide)
theorem p2s {n : Nat} (h : 1 ≤ n) : (2 : Int) ^ n = 2 * 2 ^ (n - 1) := by
  obtain ⟨k, rfl⟩ : ∃ k, n = k + 1 := ⟨n - 1, by omega⟩
  rw [Nat.add_sub_cancel, Int.pow_succ, Int.mul_comm]
theorem Md.span (m : Md) (h : m.Ok) (k : Kd) : m.high k - m.low k + 1 = 2 ^ m.b k := by
  obtain ⟨b0, _⟩ := h.b k
  have e := p2s (n := m.b k) (by omega)
  unfold Md.low Md.high
  split <;> omega
theorem Md.conv_in (m : Md) (h : m.Ok) (k : Kd) (i : Int) : m.low k ≤ m.conv k i ∧ m.conv k i ≤ m.high k := by
  have e := m.span h k
  have p := p2 (m.b k)
  unfold Md.conv
  have h0 := Int.emod_nonneg (i - m.low k) (show m.high k - m.low k + 1 ≠ 0 by omega)
  have h1 := Int.emod_lt_of_pos (i - m.low k) (show 0 < m.high k - m.low k + 1 by omega)
  omega
theorem Md.conv_mod (m : Md) (h : m.Ok) (k : Kd) (i : Int) : (m.conv k i - i) % 2 ^ m.b k = 0 := by
  have e := m.span h k
  unfold Md.conv
  rw [e]
  have h1 := Int.emod_add_mul_ediv (i - m.low k) (2 ^ m.b k)
  have h2 : (i - m.low k) % 2 ^ m.b k + m.low k - i = 2 ^ m.b k * (-((i - m.low k) / 2 ^ m.b k)) := by
    rw [Int.mul_neg]
    omega
  rw [h2]
  exact Int.mul_emod_right _ _
/-- the law's own way to say that an integer is held -/
theorem Md.held (m : Md) (h : m.Ok) (k : Kd) (i : Int) : (if (!m.un k) = true then decide (0 - 2 ^ m.b k ≤ 2 * i ∧ 2 * i < 2 ^ m.b k) else decide (0 ≤ i ∧ i < 2 ^ m.b k)) = decide (m.low k ≤ i ∧ i ≤ m.high k) := by
  obtain ⟨b0, _⟩ := h.b k
  have e := p2s (n := m.b k) (by omega)
  have key1 : (0 - 2 ^ m.b k ≤ 2 * i ∧ 2 * i < 2 ^ m.b k) ↔ (-(2 ^ (m.b k - 1)) ≤ i ∧ i ≤ 2 ^ (m.b k - 1) - 1) := by
    rw [e]
    generalize (2 : Int) ^ (m.b k - 1) = x
    omega
  have key2 : (0 ≤ i ∧ i < (2 : Int) ^ m.b k) ↔ (0 ≤ i ∧ i ≤ 2 ^ m.b k - 1) := by
    generalize (2 : Int) ^ m.b k = x
    omega
  unfold Md.low Md.high
  cases m.un k
  · exact decide_eq_decide.mpr key1
  · exact decide_eq_decide.mpr key2
theorem ev_chLeLt {σ : L2.St} {H : Hp} {ta tb tc : TE} {a b c : Int} (ha : Ev ta σ H (.int a)) (hb : Ev tb σ H (.int b)) (hc : Ev tc σ H (.int c)) :
    Ev (tChain (rI0 fun i j => .bl (decide (i ≤ j))) (rI0 fun i j => .bl (decide (i < j))) ta tb tc) σ H (.bl (decide (a ≤ b ∧ b < c))) := fun H1 e Q q =>
  ha H1 e _ fun H2 e2 => hb H2 (e.trans e2) _ fun H3 e3 => ⟨a, b, rfl, rfl, _, rfl, by
    have e4 := (e.trans e2).trans e3
    by_cases h1 : a ≤ b
    · rw [decide_eq_true h1]
      refine iteT (hc H3 e4 _ fun H4 e5 => ⟨b, c, rfl, rfl, ?_⟩)
      have e6 : decide (b < c) = decide (a ≤ b ∧ b < c) := by
        by_cases h2 : b < c
        · rw [decide_eq_true h2, decide_eq_true ⟨h1, h2⟩]
        · rw [decide_eq_false h2, decide_eq_false fun z => h2 z.2]
      show Q (.bl (decide (b < c))) H4
      rw [e6]
      exact q H4 ((e2.trans e3).trans e5)
    · rw [decide_eq_false h1]
      refine iteF ?_
      have e6 : decide (a ≤ b ∧ b < c) = false := decide_eq_false fun z => h1 z.1
      rw [e6] at q
      exact q H3 (e2.trans e3)⟩
theorem ev_isi {K : PySem.W.Frag} {σ : L2.St} {H : Hp} {ta : TE} {i : Int} {n : String} {b : Bool} (ha : Ev ta σ H (.int i)) (hb : PySem.W.kitOne K (.type "int") (.type n) = some b) :
    Ev (tCB (rIsi K) (tCons ta (tCons (tC (.ty n)) tNil))) σ H (.bl b) := ev_cb (ea_cons ha (ea_cons ev_c ea_nil)) fun H1 _ Q1 q1 => ⟨.int i, .ty n, .type "int", .type n, b, rfl, .ty n, .base (.int i), hb, q1 H1 (Ex.refl H1)⟩
theorem drop_raw {σ : L2.St} {H : Hp} {te : TE} {tz : TS} {D : Ends} (h : te σ H fun _ H1 => tz D σ H1) : tSeq (tDrop te) tz D σ H := h
theorem app_raw {K : PySem.W.Frag} {σ : L2.St} {H : Hp} {i : Nat} {l : Addr} {xs : List V} {tr : TA} {Q : VK} (hi : σ[i]? = some (some (.ref l))) (hl : H l = some (.lst xs)) (h : tr σ H fun ys H2 => rAppend (.ref l) ys H2 Q) : tBM K "list" rAppend (tVar i) tr σ H Q :=
  ⟨.ref l, hi, .inl ⟨rfl, xs, sq_of hl⟩, h⟩
def spRightN (K : PySem.W.Frag) (c : Nat) : Sp := fun vs H Q _ => ∃ r p k m n, vs = [.ref r, .ref p, Kd.v k] ∧ AtM K H p m ∧ m.Ok ∧ n < 2 ^ 50 ∧ Rng H r n ∧ ∀ H', Bu r H H' → Rng H' r (n + c) → Q (.bl true) H'
example {K : PySem.W.Frag} : PySem.W.kitOne K (.type "int") (.type "bool") = some false := kit_ty (by decide +kernel)
end Cf

namespace Cf
open PySem PySem.Spec PyProof.Rows L2 Evl
/-! ## conversions behind one another; what common types hold -/
theorem Md.conv_dvd (m : Md) (h : m.Ok) (k : Kd) (i : Int) : (2 : Int) ^ m.b k ∣ m.conv k i - i := Int.dvd_of_emod_eq_zero (m.conv_mod h k i)
theorem Md.conv_eq (m : Md) (h : m.Ok) (k : Kd) {i y : Int} (h0 : m.low k ≤ y) (h1 : y ≤ m.high k) (hd : (2 : Int) ^ m.b k ∣ y - i) : m.conv k i = y := by
  obtain ⟨c0, c1⟩ := m.conv_in h k i
  have e := m.span h k
  have p := p2 (m.b k)
  obtain ⟨q1, e1⟩ := m.conv_dvd h k i
  obtain ⟨q2, e2⟩ := hd
  have e3 : m.conv k i - y = 2 ^ m.b k * (q1 - q2) := by
    rw [Int.mul_sub]
    omega
  have hq : q1 - q2 = 0 := by
    by_cases z : q1 - q2 ≥ 1
    · have := Int.mul_le_mul_of_nonneg_left z (Int.le_of_lt p)
      omega
    · by_cases z2 : q1 - q2 ≤ -1
      · have := Int.mul_le_mul_of_nonneg_left z2 (Int.le_of_lt p)
        omega
      · omega
  rw [hq, Int.mul_zero] at e3
  omega
theorem Md.conv_conv (m : Md) (h : m.Ok) (k : Kd) (i : Int) : m.conv k (m.conv k i) = m.conv k i :=
  m.conv_eq h k (m.conv_in h k i).1 (m.conv_in h k i).2 ⟨0, by omega⟩
theorem Md.conv_held (m : Md) (h : m.Ok) (k : Kd) (i : Int) : (m.low k ≤ i ∧ i ≤ m.high k) ↔ m.conv k i = i := by
  constructor
  · intro z
    exact m.conv_eq h k z.1 z.2 ⟨0, by omega⟩
  · intro z
    have := m.conv_in h k i
    rw [z] at this
    exact this
theorem Md.conv_less (m : Md) (h : m.Ok) {k l : Kd} (hb : m.b l ≤ m.b k) (i : Int) : m.conv l (m.conv k i) = m.conv l i := by
  refine m.conv_eq h l (m.conv_in h l i).1 (m.conv_in h l i).2 ?_
  have d1 := m.conv_dvd h l i
  have d2 : (2 : Int) ^ m.b l ∣ m.conv k i - i := Int.dvd_trans ⟨2 ^ (m.b k - m.b l), by rw [← Int.pow_add]; congr 1; omega⟩ (m.conv_dvd h k i)
  have d3 := Int.dvd_sub d1 d2
  have e : m.conv l i - i - (m.conv k i - i) = m.conv l i - m.conv k i := by omega
  rw [e] at d3
  exact d3
theorem Md.conv_sum (m : Md) (h : m.Ok) (k : Kd) (i j : Int) : m.conv k (m.conv k i + m.conv k j) = m.conv k (i + j) := by
  refine m.conv_eq h k (m.conv_in h k _).1 (m.conv_in h k _).2 ?_
  have d1 := m.conv_dvd h k (i + j)
  have d2 := Int.dvd_add (m.conv_dvd h k i) (m.conv_dvd h k j)
  have d3 := Int.dvd_sub d1 d2
  have e : m.conv k (i + j) - (i + j) - (m.conv k i - i + (m.conv k j - j)) = m.conv k (i + j) - (m.conv k i + m.conv k j) := by omega
  rw [e] at d3
  exact d3
theorem p2le {a b : Nat} (h : a ≤ b) : (2 : Int) ^ a ≤ 2 ^ b := by
  have e : ∀ n : Nat, (2 : Int) ^ n = ((2 ^ n : Nat) : Int) := fun n => by
    rw [Int.natCast_pow]
    rfl
  rw [e, e]
  exact_mod_cast Nat.pow_le_pow_right (by decide) h
theorem Md.Ok.wle {m : Md} (h : m.Ok) {i j : Nat} (hij : i ≤ j) : m.w i ≤ m.w j := by
  obtain ⟨h0, h1, h2, h3, h4, h5⟩ := h
  match i, j, hij with
  | 0, 0, _ => exact Nat.le_refl _
  | 0, 1, _ => simp only [Md.w]; omega
  | 0, 2, _ => simp only [Md.w]; omega
  | 0, 3, _ => simp only [Md.w]; omega
  | 0, n + 4, _ => simp only [Md.w]; omega
  | 1, 1, _ => exact Nat.le_refl _
  | 1, 2, _ => simp only [Md.w]; omega
  | 1, 3, _ => simp only [Md.w]; omega
  | 1, n + 4, _ => simp only [Md.w]; omega
  | 2, 2, _ => exact Nat.le_refl _
  | 2, 3, _ => simp only [Md.w]; omega
  | 2, n + 4, _ => simp only [Md.w]; omega
  | 3, 3, _ => exact Nat.le_refl _
  | 3, n + 4, _ => simp only [Md.w]; omega
  | k + 4, n + 4, _ => exact Nat.le_refl _
/-- b holds what a holds -/
def Md.In (m : Md) (a b : Kd) : Prop := m.high a ≤ m.high b ∧ m.low b ≤ m.low a
/-- b holds what a holds from 0 on -/
theorem Md.in_same (m : Md) {a b : Kd} (hs : m.un a = m.un b) (hb : m.b a ≤ m.b b) : m.In a b := by
  unfold Md.In Md.high Md.low
  rw [hs]
  have h1 := p2le hb
  have h2 := p2le (a := m.b a - 1) (b := m.b b - 1) (by omega)
  split <;> omega
theorem Md.in_us (m : Md) {u s : Kd} (hu : m.un u = true) (hs : m.un s = false) (hb : m.b u < m.b s) : m.In u s := by
  unfold Md.In Md.high Md.low
  rw [hu, hs]
  have h1 := p2le (a := m.b u) (b := m.b s - 1) (by omega)
  have h2 := p2 (m.b s - 1)
  simp
  omega
theorem Md.hi_su (m : Md) (h : m.Ok) {u s : Kd} (hu : m.un u = true) (hs : m.un s = false) (hb : m.b s ≤ m.b u) : m.high s ≤ m.high u := by
  unfold Md.high
  rw [hu, hs]
  have h1 := p2le (a := m.b s - 1) (b := m.b u) (by omega)
  simp
  omega
theorem Md.prom_in (m : Md) (h : m.Ok) (k : Kd) : m.In k (m.prom k) := by
  unfold Md.prom
  by_cases h2 : 2 ≤ k.rk
  · rw [if_pos h2]
    exact ⟨Int.le_refl _, Int.le_refl _⟩
  · rw [if_neg h2]
    have hw : m.b k ≤ m.b .it := h.wle (i := k.rk) (j := 2) (by omega)
    have hw2 : m.b k ≤ m.b .ui := hw
    by_cases h3 : m.un k = true ∧ m.b .it ≤ m.b k
    · rw [if_pos h3]
      exact m.in_same h3.1 hw2
    · rw [if_neg h3]
      cases hu : m.un k
      · exact m.in_same hu hw
      · exact m.in_us hu rfl (Nat.lt_of_not_le fun z => h3 ⟨hu, z⟩)
theorem uKd_un (m : Md) (r : Nat) : m.un (uKd r) = true := by
  match r with
  | 0 => rfl
  | 1 => rfl
  | 2 => rfl
  | 3 => rfl
  | _ + 4 => rfl
theorem uKd_b (m : Md) {r : Nat} (h : r ≤ 4) : m.b (uKd r) = m.w r := by
  match r, h with
  | 0, _ => rfl
  | 1, _ => rfl
  | 2, _ => rfl
  | 3, _ => rfl
  | 4, _ => rfl
theorem Md.mix_ok (m : Md) (h : m.Ok) {u s : Kd} (hu : m.un u = true) (hs : m.un s = false) :
    m.high u ≤ m.high (m.mix u s) ∧ m.high s ≤ m.high (m.mix u s) ∧ (m.un (m.mix u s) = false → m.low (m.mix u s) ≤ m.low u ∧ m.low (m.mix u s) ≤ m.low s) := by
  unfold Md.mix
  by_cases h1 : s.rk ≤ u.rk
  · rw [if_pos h1]
    exact ⟨Int.le_refl _, m.hi_su h hu hs (h.wle h1), fun z => by rw [hu] at z; cases z⟩
  · rw [if_neg h1]
    by_cases h2 : m.b u < m.b s
    · rw [if_pos h2]
      have hi := m.in_us hu hs h2
      exact ⟨hi.1, Int.le_refl _, fun _ => ⟨hi.2, Int.le_refl _⟩⟩
    · rw [if_neg h2]
      have eb : m.b (uKd s.rk) = m.b s := uKd_b m (by have := s.rk_lt; omega)
      have hle : m.b u ≤ m.b s := h.wle (i := u.rk) (j := s.rk) (by omega)
      refine ⟨(m.in_same (a := u) (b := uKd s.rk) (by rw [hu, uKd_un]) (by rw [eb]; exact hle)).1, m.hi_su h (uKd_un m _) hs (by rw [eb]; exact Nat.le_refl _), fun z => by rw [uKd_un] at z; cases z⟩
theorem Md.com2_ok (m : Md) (h : m.Ok) (a b : Kd) :
    m.high a ≤ m.high (m.com2 a b) ∧ m.high b ≤ m.high (m.com2 a b) ∧ (m.un (m.com2 a b) = false → m.low (m.com2 a b) ≤ m.low a ∧ m.low (m.com2 a b) ≤ m.low b) := by
  unfold Md.com2
  by_cases h1 : m.un a = m.un b
  · rw [if_pos h1]
    by_cases h2 : b.rk ≤ a.rk
    · rw [if_pos h2]
      have hi := m.in_same h1.symm (h.wle h2)
      exact ⟨Int.le_refl _, hi.1, fun _ => ⟨Int.le_refl _, hi.2⟩⟩
    · rw [if_neg h2]
      have hi := m.in_same h1 (h.wle (i := a.rk) (j := b.rk) (by omega))
      exact ⟨hi.1, Int.le_refl _, fun _ => ⟨hi.2, Int.le_refl _⟩⟩
  · rw [if_neg h1]
    cases hu : m.un a
    · have hb : m.un b = true := by
        cases hb : m.un b
        · rw [hu, hb] at h1
          exact absurd rfl h1
        · rfl
      rw [if_neg (by decide)]
      obtain ⟨x, y, z⟩ := m.mix_ok h hb hu
      exact ⟨y, x, fun w => (z w).symm⟩
    · have hb : m.un b = false := by
        cases hb : m.un b
        · rfl
        · rw [hu, hb] at h1
          exact absurd rfl h1
      rw [if_pos rfl]
      exact m.mix_ok h hu hb
theorem Md.com_ok (m : Md) (h : m.Ok) (k l : Kd) :
    m.high k ≤ m.high (m.com k l) ∧ m.high l ≤ m.high (m.com k l) ∧ (m.low (m.com k l) < 0 → m.low (m.com k l) ≤ m.low k) := by
  obtain ⟨x, y, z⟩ := m.com2_ok h (m.prom k) (m.prom l)
  have p1 := m.prom_in h k
  have p2' := m.prom_in h l
  refine ⟨Int.le_trans p1.1 x, Int.le_trans p2'.1 y, fun w => ?_⟩
  have hu : m.un (m.com2 (m.prom k) (m.prom l)) = false := by
    cases hu : m.un (m.com2 (m.prom k) (m.prom l))
    · rfl
    · have e : m.low (m.com k l) = 0 := by
        unfold Md.low Md.com
        rw [if_pos hu]
      omega
  exact Int.le_trans (z hu).1 p1.2
theorem Md.low_le (m : Md) (k : Kd) : m.low k ≤ 0 ∧ 0 ≤ m.high k := by
  unfold Md.low Md.high
  have h1 := p2 (m.b k)
  have h2 := p2 (m.b k - 1)
  split <;> omega
section
variable {K : PySem.W.Frag} {σ : L2.St} {H : Hp} {tl : TE} {xs : List V} {tu tz : TS} {D : Ends}
theorem q_forNT {j : Nat} (h : EvU tl σ H xs) (Pv : Addr → Nat → L2.St → Hp → Prop) (h0 : ∀ p H1, H p = none → Ex H H1 → H1 p = some (.tup xs) → Pv p 0 σ H1) (hl : ∀ p i σ' H', i ≤ xs.length → Pv p i σ' H' → SqT K H' p xs)
    (hs : ∀ p i x σ' H', xs[i]? = some x → Pv p i σ' H' → tu { D with nx := Pv p (i + 1), ct := Pv p (i + 1), bk := tz D } (σ'.set j (some x)) H') (hd : ∀ p σ' H', Pv p xs.length σ' H' → tz D σ' H') : tSeq (tFor (iTup K tl) (gName j) tu) tz D σ H :=
  h H (Ex.refl H) _ fun p H1 n1 e1 h1 => ⟨p, rfl, ⟨xs, st_of h1⟩, for_tup (D := { D with nx := tz D }) (Pv p) (h0 p H1 n1 e1 h1) (hl p) (hs p) (hd p)⟩
end
end Cf

namespace Cf
open PySem PySem.Spec PyProof.Rows L2 Evl
/-! ## == of dicts whose keys are tuples -/
section
variable {prog : Program} {w : World} {K : Type} [DecidableEq K] {knd : HeapKind prog w K} {A : Around} {E : Value → Shared → Prop} {s : Shared}
theorem samePairsH {nm : String} {a b : Addr} {ka kb : List (K × Addr × Value)} {Q : Bool → Shared → Prop} (hu : knd.room A) (ha : (a == sysModules) = false) (hb : (b == sysModules) = false)
    (da : s.heap.DictOfH knd a ka) (db : s.heap.DictOfH knd b kb) (hl : ka.length = kb.length)
    (hits : ∀ (i : Nat) (x : K × Addr × Value), ka[i]? = some x → (∃ (j : Nat) (p : Addr × Value), kb[j]? = some (x.1, p)) ∧ ∀ (j : Nat) (p : Addr × Value), kb[j]? = some (x.1, p) → SeqAt.EqAt A s x.2.2 p.2 true)
    (h : Q true s) : wpAny (model prog w) A (Builtin.Dict.samePairs nm a b) Q E s := by
  obtain ⟨oa, es, ep, hoa, _, hda, hea, hka, hna⟩ := da
  obtain ⟨ob, es', ep', hob, _, hdb, heb, hkb, hnb⟩ := db
  have hla : es.size = ka.length := size_of_entries hea
  have hlb : es'.size = kb.length := size_of_entries heb
  unfold Builtin.Dict.samePairs Builtin.Dict.showsAll
  rw [if_neg (show ¬ (a == sysModules) = true by rw [ha]; exact Bool.false_ne_true), if_neg (show ¬ (b == sysModules) = true by rw [hb]; exact Bool.false_ne_true)]
  refine wpAny_bind (wpAny_pure (wpAny_bind (wpAny_pure ?_)))
  refine wpAny_bind (wpAny_dictEntries hoa hda ?_)
  dsimp only
  refine wpAny_bind (wpAny_dictEntries hob hdb ?_)
  have hsz : es.size = es'.size := by omega
  rw [if_neg (by rw [hsz]; simp)]
  refine wpAny_bind (wpAny_dictEpoch hoa hda ?_)
  refine wpAny_bind ?_
  rw [Std.Legacy.Range.forIn_eq_forIn_range']
  simp only [Std.Legacy.Range.size, Nat.sub_zero, Nat.add_sub_cancel, Nat.div_one]
  refine wpAny_forIn_list _
    (fun rest q s' => s' = s ∧ q = (none, ()) ∧ ∃ i, rest = List.range' i (es.size - i) ∧ i ≤ es.size)
    _ ?_ ?_ _ _ ⟨rfl, rfl, 0, by simp, Nat.zero_le _⟩
  · rintro x rest q s' ⟨rfl, rfl, i, hr, hi⟩
    have hlt : i < es.size := by
      rcases Nat.lt_or_ge i es.size with h | h
      · exact h
      · rw [Nat.sub_eq_zero_of_le h] at hr; simp at hr
    obtain ⟨rfl, hrest⟩ : x = i ∧ rest = List.range' (i + 1) (es.size - (i + 1)) := by
      have e : es.size - i = (es.size - (i + 1)) + 1 := by omega
      rw [e, List.range'_succ] at hr
      injection hr with h1 h2
      exact ⟨h1, h2⟩
    refine wpAny_bind (wpAny_dictEntries hoa hda ?_)
    have hlt' : x < ka.length := by omega
    rw [entry_at hea x, List.getElem?_eq_getElem hlt']
    obtain ⟨⟨j0, p0, hj0⟩, hall⟩ := hits x ka[x] (List.getElem?_eq_getElem hlt')
    have hk := hka ka[x] (List.getElem_mem hlt')
    generalize ka[x] = y at hk hj0 hall ⊢
    show wpAny _ _ (holding [(entryOfKey knd y).key, (entryOfKey knd y).val] _ >>= _) _ _ _
    refine wpAny_bind (wpAny_holding (wpAny_bind (wpAny_dictFind_heap (k := y.1) (a := y.2.1) hu hk hob hdb heb hkb hnb (fun hn => absurd hj0 (hn _ _)) fun j p hj => ?_)))
    refine wpAny_bind (wpAny_dictEntries hob hdb ?_)
    rw [entry_at heb j, hj]
    refine wpAny_holding (hall j p hj prog w _ _ ?_)
    show wpAny _ _ (if (!true) = true then _ else _) _ _ _
    rw [if_neg (by decide)]
    refine wpAny_bind (wpAny_dictEpoch hoa hda ?_)
    rw [if_neg (by simp)]
    exact wpAny_pure ⟨rfl, rfl, x + 1, hrest, by omega⟩
  · rintro q s' ⟨rfl, rfl, i, hr, hi⟩
    exact wpAny_pure h
theorem keyed_ne {a b : Addr} {ka kb : List (K × Addr × Value)} {Q : Value → Shared → Prop} (hr : knd.room A.in1) (ha : (a == sysModules) = false) (hb : (b == sysModules) = false)
    (da : s.heap.DictOfH knd a ka) (db : s.heap.DictOfH knd b kb) (hu : A.units < cLine) (hl : ka.length = kb.length)
    (hits : ∀ (i : Nat) (x : K × Addr × Value), ka[i]? = some x → (∃ (j : Nat) (p : Addr × Value), kb[j]? = some (x.1, p)) ∧ ∀ (j : Nat) (p : Addr × Value), kb[j]? = some (x.1, p) → SeqAt.EqAt A.in1 s x.2.2 p.2 true)
    (h : Q (.bool false) s) : wpAny (model prog w) A (compareOp .NotEq (.ref a) (.ref b)) Q E s := by
  refine wpAny_richCompare_same_room (op := .NotEq) da.typeIs db.typeIs PySem.F.slot_dict_ne (wpAny_call_entry PySem.F.slot_dict_ne da.typeIs PySem.F.entry_dict_ne ?_ (PySem.F.args_dict_ne_2 _ _)) hu
  show wpAny _ _ (Builtin.Dict.dictSlotArgs "__ne__" ⟨[.ref a, .ref b], []⟩ >>= _) _ _ s
  refine wpAny_bind ?_
  unfold Builtin.Dict.dictSlotArgs
  refine wpAny_bind (wpAny_notOrdered_dict da.typeIs ?_)
  show wpAny _ _ (pure (Value.ref a, Value.ref b)) _ _ s
  refine wpAny_pure ?_
  refine wpAny_bind (wpAny_isInstance (T := "dict") db.typeIs PySem.F.sub_dict_dict ?_)
  simp only [Bool.not_true, Bool.false_eq_true, if_false]
  refine wpAny_bind (wpAny_pure (wpAny_bind (wpAny_pure ?_)))
  refine wpAny_bind (samePairsH hr ha hb da db hl hits ?_)
  refine wpAny_pure ⟨_, rfl, ?_, ?_⟩
  · exact fun x => nomatch x
  · simpa using h
end
theorem paired_at {α β : Type} {F : α → β → Prop} : ∀ {l₁ : List α} {l₂ : List β}, Paired F l₁ l₂ → ∀ {i : Nat} {b : β}, l₂[i]? = some b → ∃ a, l₁[i]? = some a ∧ F a b
  | _, _, .nil, _, _, h => nomatch h
  | _, _, .cons f r, 0, b, h => by
    obtain rfl := Option.some.inj h
    exact ⟨_, rfl, f⟩
  | _, _, .cons f r, i + 1, b, h => paired_at (i := i) r h
theorem paired_at1 {α β : Type} {F : α → β → Prop} : ∀ {l₁ : List α} {l₂ : List β}, Paired F l₁ l₂ → ∀ {i : Nat} {a : α}, l₁[i]? = some a → ∃ b, l₂[i]? = some b ∧ F a b
  | _, _, .nil, _, _, h => nomatch h
  | _, _, .cons f r, 0, b, h => by
    obtain rfl := Option.some.inj h
    exact ⟨_, rfl, f⟩
  | _, _, .cons f r, i + 1, b, h => paired_at1 (i := i) r h
theorem nd_at {α : Type} {l : List α} (h : l.Nodup) {i j : Nat} {a : α} (hi : l[i]? = some a) (hj : l[j]? = some a) : i = j := by
  obtain ⟨hi1, hi2⟩ := List.getElem?_eq_some_iff.mp hi
  obtain ⟨hj1, hj2⟩ := List.getElem?_eq_some_iff.mp hj
  have hp := List.pairwise_iff_getElem.mp h
  rcases Nat.lt_trichotomy i j with q | q | q
  · exact absurd (hi2.trans hj2.symm) (hp i j hi1 hj1 q)
  · exact q
  · exact absurd (hj2.trans hi2.symm) (hp j i hj1 hi1 q)
theorem nodup_at {α β : Type} {l : List (α × β)} (h : (l.map (·.1)).Nodup) {i j : Nat} {k : α} {x y : β} (hi : l[i]? = some (k, x)) (hj : l[j]? = some (k, y)) : i = j := by
  have hi' : (l.map (·.1))[i]? = some k := by rw [List.getElem?_map, hi]; rfl
  have hj' : (l.map (·.1))[j]? = some k := by rw [List.getElem?_map, hj]; rfl
  exact nd_at h hi' hj'
/-- != of two dicts with the same pairs, keys tuples, values texts -/
def rNeT : R2 := fun x y H Q => ∃ a b kvs, x = .ref a ∧ y = .ref b ∧ H a = some (.dT kvs) ∧ H b = some (.dT kvs) ∧ (∀ p ∈ kvs, ∃ z, p.2 = .str z) ∧ Q (.bl false) H
theorem op_neT {X : Cx} (hu : X.A.units + 1 < cLine) : OpR X (compareOp .NotEq) rNeT := by
  intro pins s σ H x y v u Q I rx ry h
  obtain ⟨a, b, kvs, rfl, rfl, ea, eb, hp, q⟩ := h
  obtain rfl : v = Value.ref a := rx
  obtain rfl : u = Value.ref b := ry
  obtain ⟨_, ya, xa, ra, da⟩ := dt_of I.hok ea
  obtain ⟨_, yb, xb, rb, db⟩ := dt_of I.hok eb
  have la := Paired.length ra
  have lb := Paired.length rb
  have nb : (xb.map (·.1)).Nodup := by
    obtain ⟨_, _, _, _, _, _, _, _, n⟩ := db
    exact n
  refine keyed_ne (tupleKind_room_in1 hu) ya yb da db (by omega) (la.symm.trans lb) (fun i x hx => ?_) ⟨.bl false, H, I, rfl, q⟩
  obtain ⟨p, hpi, e1, _, r1⟩ := paired_at ra hx
  obtain ⟨y, hy, f1, _, r2⟩ := paired_at1 rb hpi
  have ey : xb[i]? = some (x.1, y.2) := by
    rw [hy]
    congr 1
    exact Prod.ext (f1.symm.trans e1) rfl
  refine ⟨⟨i, y.2, ey⟩, fun j p' hj => ?_⟩
  obtain rfl : i = j := nodup_at nb ey hj
  obtain rfl : y.2 = p' := by
    rw [ey] at hj
    exact (Prod.mk.inj (Option.some.inj hj)).2
  obtain ⟨z, hz⟩ := hp p (List.mem_of_getElem? hpi)
  rw [hz] at r1 r2
  obtain ⟨t1, g1⟩ := (show ∃ t, x.2.2 = Value.str z t from r1)
  obtain ⟨t2, g2⟩ := (show ∃ t, y.2.2 = Value.str z t from r2)
  rw [g1, g2]
  have := PySem.W.keq_flat (A := X.A.in1) (s := s) (v := Value.str z t1) (y := Value.str z t2) (d := .str z) (e := .str z) (fun _ => Reads.str z t1) (fun _ => Reads.str z t2)
  simpa [PyData.eqv] using this

/-! ## the table of all common types -/
def prs : List (Kd × Kd) := Kd.all.flatMap fun k => Kd.all.map fun l => (k, l)
def keyOf (p : Kd × Kd) : List Key := [.inr p.1.s, .inr p.2.s]
def Md.ent (m : Md) (p : Kd × Kd) : List Key × V := (keyOf p, (m.com p.1 p.2).v)
def Md.tabN (m : Md) (n : Nat) : List (List Key × V) := (prs.take n).map m.ent
def Md.tab (m : Md) : List (List Key × V) := prs.map m.ent
theorem kd_s {k l : Kd} (h : k.s = l.s) : k = l := by
  have e := kd_eq k l
  have e2 : eqV k.v l.v = decide (k.s = l.s) := by cases k <;> cases l <;> rfl
  rw [e2, decide_eq_true h] at e
  exact of_decide_eq_true e.symm
theorem key_inj {p q : Kd × Kd} (h : keyOf p = keyOf q) : p = q := by
  obtain ⟨k, l⟩ := p
  obtain ⟨k2, l2⟩ := q
  unfold keyOf at h
  simp only [List.cons.injEq, Sum.inr.injEq, and_true] at h
  exact Prod.ext (kd_s h.1) (kd_s h.2)
theorem key_kV (k l : Kd) : (keyOf (k, l)).map kV = [k.v, l.v] := rfl
theorem mem_prs : ∀ (k l : Kd), (k, l) ∈ prs := fun k l => by cases k <;> cases l <;> decide +kernel
theorem prs_at (k l : Kd) : prs[11 * k.ix + l.ix]? = some (k, l) := by cases k <;> cases l <;> rfl
theorem prs_nodup : prs.Nodup := by decide +kernel
theorem prs_len : prs.length = 121 := by decide +kernel
theorem Md.tab_get (m : Md) (k l : Kd) : valV m.tab (keyOf (k, l)) = some (m.com k l).v := by
  have key : ∀ xs : List (Kd × Kd), (k, l) ∈ xs → valV (xs.map m.ent) (keyOf (k, l)) = some (m.com k l).v := by
    intro xs
    induction xs with
    | nil => intro h; exact nomatch h
    | cons x xs ih =>
      intro h
      by_cases e : x = (k, l)
      · subst e
        simp [valV, Md.ent]
      · have hk : keyOf x ≠ keyOf (k, l) := fun z => e (key_inj z)
        have := ih (by rcases List.mem_cons.mp h with z | z; exact absurd z.symm e; exact z)
        simpa [valV, Md.ent, hk] using this
  exact key prs (mem_prs k l)
theorem Md.tab_put (m : Md) {n : Nat} {p : Kd × Kd} (h : prs[n]? = some p) : putK (m.tabN n) (keyOf p) (m.com p.1 p.2).v = m.tabN (n + 1) := by
  obtain ⟨hn, e⟩ := List.getElem?_eq_some_iff.mp h
  have hno : ((m.tabN n).any fun kv => decide (kv.1 = keyOf p)) = false := by
    rw [List.any_eq_false]
    intro x hx
    obtain ⟨q, hq, rfl⟩ := List.mem_map.mp hx
    intro z
    have eq : q = p := key_inj (of_decide_eq_true z)
    subst eq
    obtain ⟨i, hi⟩ := List.mem_iff_getElem?.mp hq
    rw [List.getElem?_take] at hi
    split at hi
    · rename_i hlt
      have := nd_at prs_nodup hi h
      omega
    · exact nomatch hi
  unfold putK
  rw [hno, if_neg (by decide)]
  unfold Md.tabN
  rw [List.take_add_one, h, List.map_append]
  rfl
theorem Md.tab_str (m : Md) : ∀ p ∈ m.tab, ∃ z, p.2 = V.str z := by
  intro p hp
  obtain ⟨q, _, rfl⟩ := List.mem_map.mp hp
  exact ⟨_, rfl⟩
theorem Md.tab_all (m : Md) : m.tabN 121 = m.tab := by
  unfold Md.tabN Md.tab
  rw [← prs_len, List.take_length]
theorem Md.tabN_len (m : Md) (n : Nat) : (m.tabN n).length ≤ 121 := by
  unfold Md.tabN
  rw [List.length_map, List.length_take, prs_len]
  omega
end Cf

namespace Cf
open PySem PySem.Spec PyProof.Rows L2 Evl
/-! ## common types, finitely -/
/-- of two promoted types, by p: int is narrower than long; q: long is narrower than wide -/
def cm (p q : Bool) (a b : Kd) : Kd :=
  if a = b then a else match a, b with
  | .ui, .it => .ui | .it, .ui => .ui
  | .ui, .lo => if p then .lo else .ul | .lo, .ui => if p then .lo else .ul
  | .ui, .wi => if p || q then .wi else .uw | .wi, .ui => if p || q then .wi else .uw
  | .ul, .wi => if q then .wi else .uw | .wi, .ul => if q then .wi else .uw
  | .ul, .lo => .ul | .lo, .ul => .ul | .wi, .uw => .uw | .uw, .wi => .uw
  | a, b => if b.rk ≤ a.rk then a else b
theorem Md.com2_cm {m : Md} (o : m.Ok) {a b : Kd} (ha : a.big) (hb : b.big) : m.com2 a b = cm (decide (m.w2 < m.w3)) (decide (m.w3 < m.w4)) a b := by
  obtain ⟨h0, h1, h2, h3, h4, h5⟩ := o
  have e : (decide (m.w2 < m.w3) || decide (m.w3 < m.w4)) = decide (m.w2 < m.w4) := by
    by_cases x : m.w2 < m.w3 <;> by_cases y : m.w3 < m.w4 <;> simp [x, y] <;> omega
  rcases ha with rfl | rfl | rfl | rfl | rfl | rfl <;> rcases hb with rfl | rfl | rfl | rfl | rfl | rfl <;>
    simp [Md.com2, Md.mix, Md.un, Kd.rk, uKd, Md.b, Md.w, cm, e]
def bigs : List Kd := [.it, .ui, .lo, .ul, .wi, .uw]
theorem big_mem {k : Kd} (h : k.big) : k ∈ bigs := by
  rcases h with rfl | rfl | rfl | rfl | rfl | rfl <;> decide
theorem mem_big {k : Kd} (h : k ∈ bigs) : k.big := by
  unfold bigs at h
  unfold Kd.big
  simpa using h
theorem cm_facts : ([true, false].all fun p => [true, false].all fun q => bigs.all fun a => bigs.all fun b => decide (cm p q a b ∈ bigs) && bigs.all fun c => decide (cm p q (cm p q a b) c = cm p q a (cm p q b c))) = true := by decide +kernel
theorem cm_big (p q : Bool) {a b : Kd} (ha : a.big) (hb : b.big) : (cm p q a b).big := by
  have h := cm_facts
  simp only [List.all_eq_true] at h
  have h1 := h p (by cases p <;> decide) q (by cases q <;> decide) a (big_mem ha) b (big_mem hb)
  rw [Bool.and_eq_true] at h1
  exact mem_big (of_decide_eq_true h1.1)
theorem cm_assoc (p q : Bool) {a b c : Kd} (ha : a.big) (hb : b.big) (hc : c.big) : cm p q (cm p q a b) c = cm p q a (cm p q b c) := by
  have h := cm_facts
  simp only [List.all_eq_true] at h
  have h1 := h p (by cases p <;> decide) q (by cases q <;> decide) a (big_mem ha) b (big_mem hb)
  rw [Bool.and_eq_true, List.all_eq_true] at h1
  exact of_decide_eq_true (h1.2 c (big_mem hc))
theorem cm_self (p q : Bool) (a : Kd) : cm p q a a = a := by
  unfold cm
  rw [if_pos rfl]
theorem Md.prom_of_big (m : Md) {k : Kd} (h : k.big) : m.prom k = k := by
  unfold Md.prom
  rw [if_pos (big_rk h).1]
section
variable {m : Md} (o : m.Ok)
include o
theorem Md.com_cm (k l : Kd) : m.com k l = cm (decide (m.w2 < m.w3)) (decide (m.w3 < m.w4)) (m.prom k) (m.prom l) := m.com2_cm o (m.prom_big k) (m.prom_big l)
theorem Md.com_big (k l : Kd) : (m.com k l).big := by
  rw [m.com_cm o]
  exact cm_big _ _ (m.prom_big k) (m.prom_big l)
theorem Md.com_self (k : Kd) : m.com k k = m.prom k := by
  rw [m.com_cm o, cm_self]
theorem Md.com_assoc (k l t : Kd) : m.com (m.com k l) t = m.com k (m.com l t) := by
  rw [m.com_cm o (m.com k l) t, m.prom_of_big (m.com_big o k l), m.com_cm o k (m.com l t), m.prom_of_big (m.com_big o l t), m.com_cm o k l, m.com_cm o l t]
  exact cm_assoc _ _ (m.prom_big k) (m.prom_big l) (m.prom_big t)
theorem Md.com_l (k l : Kd) : m.com (m.com k l) l = m.com k l := by
  rw [m.com_assoc o, m.com_self o, m.com_cm o k (m.prom l), m.prom_of_big (m.prom_big l), ← m.com_cm o]
theorem Md.com_k (k l : Kd) : m.com (m.com k l) k = m.com k l := by
  rw [m.com_comm k l]
  exact m.com_l o l k
theorem Md.com_up {k l t : Kd} (h1 : m.com t k = t) (h2 : m.com t l = t) : m.com t (m.com k l) = t := by
  rw [← m.com_assoc o, h1, h2]
end
/-- wider by steps that stay where neighbours are equal -/
structure Md.Like (m n : Md) : Prop where
  u : n.u = m.u
  e0 : (m.w0 < m.w1 ↔ n.w0 < n.w1)
  e1 : (m.w1 < m.w2 ↔ n.w1 < n.w2)
  e2 : (m.w2 < m.w3 ↔ n.w2 < n.w3)
  e3 : (m.w3 < m.w4 ↔ n.w3 < n.w4)
theorem Md.Like.un {m n : Md} (h : m.Like n) (k : Kd) : n.un k = m.un k := by
  cases k <;> simp [Md.un, h.u]
theorem Md.Like.prom {m n : Md} (h : m.Like n) (o : m.Ok) (o2 : n.Ok) (k : Kd) : n.prom k = m.prom k := by
  obtain ⟨hu, e0, e1, e2, e3⟩ := h
  obtain ⟨h0, h1, h2, h3, h4, h5⟩ := o
  obtain ⟨g0, g1, g2, g3, g4, g5⟩ := o2
  have c0 : m.w2 ≤ m.w0 ↔ n.w2 ≤ n.w0 := by omega
  have c1 : m.w2 ≤ m.w1 ↔ n.w2 ≤ n.w1 := by omega
  cases k <;> simp [Md.prom, Md.un, Kd.rk, Md.b, Md.w, hu, c0, c1]
theorem Md.Like.com {m n : Md} (h : m.Like n) (o : m.Ok) (o2 : n.Ok) (k l : Kd) : n.com k l = m.com k l := by
  rw [n.com_cm o2, m.com_cm o, h.prom o o2, h.prom o o2]
  have e2 : decide (n.w2 < n.w3) = decide (m.w2 < m.w3) := decide_eq_decide.mpr h.e2.symm
  have e3 : decide (n.w3 < n.w4) = decide (m.w3 < m.w4) := decide_eq_decide.mpr h.e3.symm
  rw [e2, e3]
theorem Md.Like.tab {m n : Md} (h : m.Like n) (o : m.Ok) (o2 : n.Ok) : n.tab = m.tab := by
  unfold Md.tab
  refine List.map_congr_left fun p _ => ?_
  unfold Md.ent
  rw [h.com o o2]
/-! ### readings -/
def EvD (te : TE) (σ : L2.St) (H : Hp) (kvs : List (List Key × V)) : Prop := ∀ H1, Ex H H1 → ∀ Q : VK, (∀ p H2, H1 p = none → Ex H1 H2 → H2 p = some (.dT kvs) → Q (.ref p) H2) → te σ H1 Q
def spTab (K : PySem.W.Frag) : Sp := fun vs H Q _ => ∃ p m, vs = [.ref p] ∧ AtM K H p m ∧ m.Ok ∧ ∀ D H', H D = none → Ex H H' → H' D = some (.dT m.tab) → Q (.ref D) H'
section
variable {K : PySem.W.Frag} {σ : L2.St} {H : Hp} {ta tb tc tv : TE} {tk : TA} {tz : TS} {D : Ends} {a p : Addr} {kvs : List (List Key × V)} {k : List Key} {v : V} {m : Md}
theorem ev_tab (h : EvA tk σ H [.ref p]) (hm : AtM K H p m) (o : m.Ok) : EvD (tCall (spTab K) [] E0 tk) σ H m.tab := fun H1 e Q q =>
  h H1 e _ fun H2 e2 => ⟨p, m, rfl, hm.ex (e.trans e2), o, fun q2 H3 n e3 h3 => q q2 H3 (fresh_back e2 n) (e2.trans e3) h3⟩
theorem ev_dget (ha : Ev ta σ H (.ref a)) (hk : EvU tb σ H (k.map kV)) (h : H a = some (.dT kvs)) (hv : valV kvs k = some v) : Ev (tDGet ta tb) σ H v := fun H1 e Q q =>
  ha H1 e _ fun H2 e2 => hk H2 (e.trans e2) _ fun p H3 np e3 h3 => ⟨a, v, rfl, by
    have g := DGet.t (k := k) (e3 _ _ (e2 _ _ (e _ _ h))) h3
    rw [hv] at g
    exact g, q H3 (e2.trans e3)⟩
/-- table[k, l] -/
theorem ev_tget {k l : Kd} (ha : Ev ta σ H (.ref a)) (hb : Ev tb σ H k.v) (hc : Ev tc σ H l.v) (h : H a = some (.dT m.tab)) : Ev (tDGet ta (tTup (tCons tb (tCons tc tNil)))) σ H (m.com k l).v :=
  ev_dget (k := keyOf (k, l)) ha (eu_tup (ea_cons hb (ea_cons hc ea_nil)) (by show 2 ≤ 100000; decide)) h (m.tab_get k l)
theorem s_dput (hv : Ev tv σ H v) (ho : Ev ta σ H (.ref a)) (hk : EvU tb σ H (k.map kV)) (h : H a = some (.dT kvs)) (hl : kvs.length < 100000) (n : ∀ H1, Ex H H1 → D.nx σ (upd H1 a (.dT (putK kvs k v)))) : sDPut ta tb tv D σ H :=
  hv H (Ex.refl H) _ fun H1 e1 => ho H1 e1 _ fun H2 e2 => hk H2 (e1.trans e2) _ fun p H3 np e3 h3 => ⟨a, _, rfl, DPut.t (k := k) (e3 _ _ (e2 _ _ (e1 _ _ h))) h3 (sz_lt hl), n H3 ((e1.trans e2).trans e3)⟩
theorem ev_neDD {xs ys : List (List Key × V)} (ha : EvD ta σ H xs) (hb : EvD tb σ H ys) (e : xs = ys) (hs : ∀ p ∈ xs, ∃ z, p.2 = V.str z) : Ev (tOp rNeT ta tb) σ H (.bl false) := by
  subst e
  exact fun H1 e Q q => ha H1 e _ fun p H2 np e2 h2 => hb H2 (e.trans e2) _ fun p2 H3 np2 e3 h3 => ⟨p, p2, xs, rfl, rfl, e3 _ _ h2, h3, hs, q H3 (e2.trans e3)⟩
end
end Cf
namespace Cf
open PySem PySem.Spec PyProof.Rows L2 Evl
/-- widths so far, each with what was added, which ascends and stays where neighbours are equal -/
def Wd (m : Md) (d : Int) : Nat → List Int → Int → Prop
  | 0, xs, b => xs = [] ∧ b = 0
  | i + 1, xs, b => ∃ ys c, xs = ys ++ [(m.w i : Int) + b] ∧ Wd m d i ys c ∧ c ≤ b ∧ b ≤ c + d ∧ (i ≠ 0 → m.w i = m.w (i - 1) → b = c)
def spWider (K : PySem.W.Frag) : Sp := fun vs H Q _ => ∃ r p m n, vs = [.ref r, .ref p] ∧ AtM K H p m ∧ m.Ok ∧ n < 2 ^ 50 ∧ Rng H r n ∧
  ∀ p' H' m', Bu r H H' → Rng H' r (n + 5) → AtM K H' p' m' → m.Like m' → m'.Ok → Q (.ref p') H'
theorem Wd.end_ {m : Md} (o : m.Ok) {xs : List Int} {b : Int} (h : Wd m ((128 - (m.w4 : Int)) / 5) 5 xs b) : ∃ n : Md, n.ns = xs ∧ n.u = m.u ∧ m.Like n ∧ n.Ok := by
  obtain ⟨_, b4, rfl, ⟨_, b3, rfl, ⟨_, b2, rfl, ⟨_, b1, rfl, ⟨_, b0, rfl, ⟨rfl, rfl⟩, a0, c0, _⟩, a1, c1, d1⟩, a2, c2, d2⟩, a3, c3, d3⟩, a4, c4, d4⟩ := h
  have d1 := d1 (by decide)
  have d2 := d2 (by decide)
  have d3 := d3 (by decide)
  have d4 := d4 (by decide)
  simp only [Md.w] at d1 d2 d3 d4
  have d1 : m.w1 = m.w0 → _ := d1
  have d2 : m.w2 = m.w1 → _ := d2
  have d3 : m.w3 = m.w2 → _ := d3
  have d4 : m.w4 = m.w3 → _ := d4
  obtain ⟨h0, h1, h2, h3, h4, h5⟩ := o
  refine ⟨⟨(m.w0 + b1).toNat, (m.w1 + b2).toNat, (m.w2 + b3).toNat, (m.w3 + b4).toNat, (m.w4 + b).toNat, m.u⟩, ?_, rfl, ⟨rfl, ?_, ?_, ?_, ?_⟩, ⟨?_, ?_, ?_, ?_, ?_, ?_⟩⟩
  · show [(((m.w0 : Int) + b1).toNat : Int), (((m.w1 : Int) + b2).toNat : Int), (((m.w2 : Int) + b3).toNat : Int), (((m.w3 : Int) + b4).toNat : Int), (((m.w4 : Int) + b).toNat : Int)] = [(m.w0 : Int) + b1, (m.w1 : Int) + b2, (m.w2 : Int) + b3, (m.w3 : Int) + b4, (m.w4 : Int) + b]
    rw [Int.toNat_of_nonneg (by omega), Int.toNat_of_nonneg (by omega), Int.toNat_of_nonneg (by omega), Int.toNat_of_nonneg (by omega), Int.toNat_of_nonneg (by omega)]
  all_goals (dsimp only; omega)
theorem ev_ww {K : PySem.W.Frag} {σ : L2.St} {H : Hp} {p : Addr} {m : Md} {i j : Nat} {tj : TE} (hm : AtM K H p m) (hi : σ[i]? = some (some (.ref p))) (hj : j < 5) (h : Ev tj σ H (.int (j : Nat))) :
    Ev (tOp (rIxT K) (tOp (rIxT K) (tVar i) (tC (.int 0))) tj) σ H (.int (m.w j : Nat)) := by
  obtain ⟨q, a, b⟩ := hm
  exact ev_op (ev_op (ev_var hi) ev_c (rv_ixT a (atI_nat (j := 0) rfl))) h (rv_ixT b (atI_nat (Md.at_ hj)))
theorem par_raw {ta : TA} {tz : TS} {D : Ends} {i j : Nat} {σ : L2.St} {H : Hp} (h : ta σ H fun vs H1 => ∃ v w, vs = [v, w] ∧ tz D ((σ.set i (some v)).set j (some w)) H1) : tSeq (tPar i j ta) tz D σ H := h
theorem ea_atD {te : TE} {tr : TA} {σ : L2.St} {H : Hp} {xs : List (List Key × V)} {Q : List V → Hp → Prop} (h : EvD te σ H xs) (k : ∀ p H1, H p = none → Ex H H1 → H1 p = some (.dT xs) → tr σ H1 fun ys H2 => Q (.ref p :: ys) H2) : tCons te tr σ H Q := h H (Ex.refl H) _ k
end Cf

namespace Cf
open PySem PySem.Spec PyProof.Rows L2 Evl
/-! ## the draws out of a pool -/
theorem small_log5 {i : Int} {n : Nat} (hn : 0 < n) (h : i.natAbs < 2 ^ n) (h2 : n ≤ 90000) : CPowW i 5 := ⟨by decide, by decide, by
  have := PySem.Flt.log2_lt_of hn h
  omega⟩
def spPool (K : PySem.W.Frag) : Sp := fun vs H Q _ => ∃ (a : Addr) (ns : List Int) (at_ : Nat), vs = [.ref a, .int (at_ : Nat)] ∧ SqL K H a (ns.map V.int) ∧ ns.length ≤ 63 ∧ at_ ≤ 63 ∧ ∀ r H', H r = none → Ex H H' → Rng H' r 0 → Q (.ref r) H'
def spModel (K : PySem.W.Frag) : Sp := fun vs H Q _ => ∃ r top n, vs = [.ref r, .int top] ∧ 4 ≤ top ∧ top ≤ 128 ∧ n < 2 ^ 50 ∧ Rng H r n ∧
  ∀ p H' m, Bu r H H' → Rng H' r (n + 20) → AtM K H' p m → m.Ok → (m.w4 : Int) ≤ top → Q (.ref p) H'
theorem retx {te : TE} {D : Ends} {σ : L2.St} {H : Hp} (h : te σ H D.rt) : tRet te D σ H := h
theorem Rng.ne_none {H : Hp} {r p : Addr} {n : Nat} (h : Rng H r n) (t : H p = none) : p ≠ r := by
  obtain ⟨d, s, c, a, _⟩ := h
  exact fun z => by
    rw [z, a] at t
    cases t
/-- one of 's', 'u' -/
theorem su_draw {σ : L2.St} {H : Hp} {r : Addr} {n j : Nat} {E : XK} {Q : VK} (g : Rng H r n) (hn : n < 2 ^ 60) (hj : σ[j]? = some (some (.ref r))) (k : ∀ H' u, Bu r H H' → Rng H' r (n + 1) → Q (.str (plS u)) H') :
    tOp rIxS (tC (.str "su")) (tCall spDraw [] E (tCons (tVar j) (tCons (tC (.int 2)) tNil))) σ H Q := by
  refine op_raw (draw_at (l := 2) (n := n) (ea_cons (ev_var hj) (ea_cons ev_c ea_nil)) (by decide) (log_small (by decide)) hn g fun H5 v b5 g5 v0 v1 => ?_)
  obtain ⟨u, hu⟩ : ∃ u : Bool, atI ("su" : Str).cps.toList v = some (if u then 117 else 115) := by
    have hv : v = 0 ∨ v = 1 := by omega
    rcases hv with rfl | rfl
    · exact ⟨false, by decide +kernel⟩
    · exact ⟨true, by decide +kernel⟩
  have e : (⟨#[if u then 117 else 115]⟩ : Str) = plS u := by cases u <;> rfl
  have := k H5 u b5 g5
  rw [← e] at this
  exact ⟨_, v, _, rfl, rfl, by decide +kernel, hu, this⟩
/-- widths that stand in a list -/
def W5 (top : Int) (ns : List Int) : Prop := ns.length = 5 ∧ ∀ x ∈ ns, 2 ≤ x ∧ x ≤ top
theorem W5.perm {top : Int} {ns ms : List Int} (h : W5 top ns) (p : ms.Perm ns) : W5 top ms := ⟨p.length_eq.trans h.1, fun x hx => h.2 x (p.mem_iff.mp hx)⟩
theorem W5.set {top : Int} {ns : List Int} {i : Nat} {x : Int} (h : W5 top ns) (hx : x ∈ ns) : W5 top (ns.set i x) := ⟨by rw [List.length_set]; exact h.1, fun y hy => by
  rcases List.mem_or_eq_of_mem_set hy with z | z
  · exact h.2 y z
  · rw [z]
    exact h.2 x hx⟩
theorem W5.md {top : Int} {ns : List Int} (h : W5 top ns) (s : ns.Pairwise (· ≤ ·)) (ht : top ≤ 128) (u : Bool) : ∃ m : Md, m.Ok ∧ m.u = u ∧ ns.map V.int = m.ws ∧ (m.w4 : Int) ≤ top := by
  obtain ⟨hl, hm⟩ := h
  match ns, hl with
  | [a, b, c, d, e], _ =>
    have ha := hm a (by simp)
    have hb := hm b (by simp)
    have hc := hm c (by simp)
    have hd := hm d (by simp)
    have he := hm e (by simp)
    simp only [List.pairwise_cons, List.mem_cons, List.not_mem_nil, or_false, forall_eq_or_imp, forall_eq] at s
    obtain ⟨⟨s1, _⟩, ⟨s2, _⟩, ⟨s3, _⟩, s4, _⟩ := s
    refine ⟨⟨a.toNat, b.toNat, c.toNat, d.toNat, e.toNat, u⟩, ⟨?_, ?_, ?_, ?_, ?_, ?_⟩, rfl, ?_, ?_⟩
    all_goals (try (simp only []; omega))
    show [V.int a, V.int b, V.int c, V.int d, V.int e] = [V.int (a.toNat : Nat), V.int (b.toNat : Nat), V.int (c.toNat : Nat), V.int (d.toNat : Nat), V.int (e.toNat : Nat)]
    rw [Int.toNat_of_nonneg (by omega), Int.toNat_of_nonneg (by omega), Int.toNat_of_nonneg (by omega), Int.toNat_of_nonneg (by omega), Int.toNat_of_nonneg (by omega)]
theorem eu_if {σ : L2.St} {H : Hp} {t : TT} {ta tb : TE} {b : Bool} {xs : List V} (h : EvT t σ H b) (h1 : b = true → EvU ta σ H xs) (h2 : b = false → EvU tb σ H xs) : EvU (tIf t ta tb) σ H xs := fun H1 e Q q => h H1 e _ fun H2 e2 => by
  cases b with
  | true => exact iteT (h1 rfl H2 (e.trans e2) Q fun p H3 n3 e3 h3 => q p H3 (fresh_back e2 n3) (e2.trans e3) h3)
  | false => exact iteF (h2 rfl H2 (e.trans e2) Q fun p H3 n3 e3 h3 => q p H3 (fresh_back e2 n3) (e2.trans e3) h3)
def Kd.c0 : Kd → Nat
  | .ch => 99 | .sc => 115 | .uc => 117 | .sh => 115 | .us => 117 | .it => 105 | .ui => 117 | .lo => 108 | .ul => 117 | .wi => 119 | .uw => 117
theorem Kd.c0_at (k : Kd) : atI k.s.cps.toList 0 = some k.c0 := by cases k <;> decide +kernel
theorem Kd.s_len (k : Kd) : k.s.length ≤ 100000 := by cases k <;> decide +kernel
/-- kind[0] == 'u' -/
def Kd.isU : Kd → Bool
  | .uc => true | .us => true | .ui => true | .ul => true | .uw => true | _ => false
theorem ev_isU {σ : L2.St} {H : Hp} {ta : TE} {k : Kd} (h : Ev ta σ H k.v) : Ev (tOp rEq (tOp rIxS ta (tC (.int 0))) (tC (.str "u"))) σ H (.bl k.isU) := by
  refine ev_is (ev_op (ev_op h ev_c (rv_ixS k.s_len k.c0_at)) ev_c (rv_eq rfl)) ?_
  cases k <;> decide +kernel
theorem ev_c0 {σ : L2.St} {H : Hp} {ta : TE} {k : Kd} (h : Ev ta σ H k.v) : Ev (tOp rIxS ta (tC (.int 0))) σ H (.str ⟨#[k.c0]⟩) := ev_op h ev_c (rv_ixS k.s_len k.c0_at)
theorem c0_u (k : Kd) : decide (V.str ⟨#[k.c0]⟩ = V.str "u") = k.isU := by cases k <;> decide +kernel
theorem un_isU (m : Md) {k : Kd} (h : k ≠ .ch) : m.un k = k.isU := by
  cases k <;> first | rfl | exact absurd rfl h
theorem big_ch {k : Kd} (h : k.big) : k ≠ .ch := by
  rcases h with rfl | rfl | rfl | rfl | rfl | rfl <;> decide
theorem at_md {K : PySem.W.Frag} {H : Hp} {p t : Addr} {ns : List Int} {u : Bool} {m : Md} (np : H p = none) (ht : H t = some (.tup (ns.map V.int))) (hu : m.u = u) (hw : ns.map V.int = m.ws) : AtM K (upd H p (.tup [.ref t, .str (plS u)])) p m :=
  ⟨t, st_of (by rw [hu]; exact upd_same), st_of (by rw [← hw]; exact Ex.new np _ _ ht)⟩
/-- a list of ints grows in a comprehension that draws -/
def GrW (H : Hp) (r : Addr) (n : Nat) (lo hi : Int) (D : Addr) (i : Nat) (G : Hp) : Prop := H D = none ∧ Bu r H G ∧ Rng G r (n + i) ∧ ∃ xs : List Int, G D = some (.lst (xs.map V.int)) ∧ xs.length = i ∧ ∀ x ∈ xs, lo ≤ x ∧ x ≤ hi
theorem GrW.start {H : Hp} {r : Addr} {n : Nat} {lo hi : Int} {D : Addr} (g : Rng H r n) (nD : H D = none) : GrW H r n lo hi D 0 (upd H D (.lst [])) :=
  ⟨nD, Bu.of (Ex.new nD), g.ex (Ex.new nD), [], upd_same, rfl, fun x hx => nomatch hx⟩
theorem GrW.step {H : Hp} {r : Addr} {n : Nat} {lo hi : Int} {D : Addr} {i : Nat} {G G2 : Hp} {v : Int} (h : GrW H r n lo hi D i G) (g0 : Rng H r n) (b : Bu r G G2) (g : Rng G2 r (n + i + 1)) (hv : lo ≤ v ∧ v ≤ hi) (hi5 : i < 1000) :
    ∃ acc, G2 D = some (.lst acc) ∧ acc.length < sizeLine ∧ GrW H r n lo hi D (i + 1) (upd G2 D (.lst (acc ++ [.int v]))) := by
  obtain ⟨nD, bu, gr, xs, hD, hl, hx⟩ := h
  have nr : D ≠ r := g0.ne_none nD
  refine ⟨xs.map V.int, b _ _ nr hD, by rw [List.length_map, hl]; exact sz_lt (by omega), nD, fun c o nc hc => ?_, ?_, xs ++ [v], ?_, ?_, ?_⟩
  · have ncD : c ≠ D := fun z => by rw [z, nD] at hc; exact nomatch hc
    rw [upd_ne ncD]
    exact b _ _ nc (bu c o nc hc)
  · obtain ⟨d, s, c, a, a1, a2, a3⟩ := g
    exact ⟨d, s, c, by rw [upd_ne (Ne.symm nr)]; exact a, a1, a2, by omega⟩
  · rw [List.map_append]
    exact upd_same
  · rw [List.length_append, hl]
    rfl
  · intro x hx2
    rcases List.mem_append.mp hx2 with z | z
    · exact hx x z
    · rw [List.mem_singleton.mp z]
      exact hv
section
variable {σ : L2.St} {H : Hp} {ta tr : TA} {te : TE} {tt : TT} {g : TG} {vs : List Nat}
theorem cb_raw {r : List V → Hp → VK → Prop} {Q : VK} (h : ta σ H fun vs H1 => r vs H1 Q) : tCB r ta σ H Q := h
theorem cons_raw {Q : List V → Hp → Prop} (h : te σ H fun x H1 => tr σ H1 fun ys H2 => Q (x :: ys) H2) : tCons te tr σ H Q := h
theorem nil_raw {Q : List V → Hp → Prop} (h : Q [] H) : tNil σ H Q := h
theorem lcR_go {n : Int} {Q : VK} (h : EvA ta σ H [.int n]) (hn : 0 ≤ n ∧ n ≤ 40000) (Pv : Addr → Nat → Hp → Prop) (h0 : ∀ D H1, Ex H H1 → H1 D = none → Pv D 0 (upd H1 D (.lst [])))
    (hs : ∀ D (i : Nat) H', (i : Int) < n → Pv D i H' → g (.int (i : Nat)) (wipe σ vs) H' fun σ2 H2 => wipe σ2 vs = wipe σ vs ∧ tt σ2 H2 fun b H3 =>
      if b = true then te σ2 H3 fun y H4 => ∃ acc, H4 D = some (.lst acc) ∧ acc.length < sizeLine ∧ Pv D (i + 1) (upd H4 D (.lst (acc ++ [y]))) else Pv D (i + 1) H3)
    (hd : ∀ D H', Pv D n.toNat H' → Q (.ref D) H') : tLc (iRng1 ta) g tt te vs σ H Q :=
  h H (Ex.refl H) _ fun H1 e1 => ⟨n, rfl, by omega, by omega, fun D nD => lc_range (lo := 0) (n := n.toNat) (Pv D) (h0 D H1 e1 nD) (fun i H' hi p => by
    have e0 : (0 : Int) + (i : Int) = (i : Int) := Int.zero_add _
    rw [e0]
    exact hs D i H' (by omega) p) (hd D)⟩
end
theorem yes_raw {σ : L2.St} {H : Hp} {Q : Bool → Hp → Prop} (h : Q true H) : tYes σ H Q := h
theorem s_raw {te : TE} {D : Ends} {i : Nat} {σ : L2.St} {H : Hp} (h : te σ H fun x H1 => D.nx (σ.set i (some x)) H1) : tAsg te (gName i) D σ H := h
theorem not_raw {t : TT} {σ : L2.St} {H : Hp} {Q : Bool → Hp → Prop} (h : t σ H fun c H1 => Q (!c) H1) : tNot t σ H Q := h
theorem B_raw {te : TE} {σ : L2.St} {H : Hp} {Q : Bool → Hp → Prop} (h : te σ H fun x H1 => ∃ b, x = .bl b ∧ Q b H1) : tB te σ H Q := h
theorem call_raw {sp : Sp} {dvs : List V} {E : XK} {ta : TA} {σ : L2.St} {H : Hp} {Q : VK} (h : ta σ H fun vs H1 => sp (vs ++ dvs) H1 Q E) : tCall sp dvs E ta σ H Q := h
theorem var_raw {i : Nat} {v : V} {σ : L2.St} {H : Hp} {Q : VK} (hj : σ[i]? = some (some v)) (h : Q v H) : tVar i σ H Q := ⟨v, hj, h⟩
end Cf

namespace Cf
open PySem PySem.Spec PyProof.Rows L2 Evl
/-! ## the pool laws' common types -/
section
variable {K : PySem.W.Frag} {σ : L2.St} {H : Hp} {ta tb : TE} {tz : TS} {D : Ends}
theorem ev_indexA {p : Addr} {k : Kd} (ha : Ev ta σ H (.ref p)) (hl : SqL K H p vKINDS) (hb : Ev tb σ H k.v) : Ev (tBM K "list" (rIndex K) ta (tCons tb tNil)) σ H (.int (k.ix : Nat)) := fun H1 e Q q =>
  ha H1 e _ fun H2 e2 => ⟨.inl ⟨rfl, _, ex_l (e.trans e2) hl⟩, hb H2 (e.trans e2) _ fun H3 e3 =>
    ⟨p, vKINDS, k.v, k.ix, k.v, rfl, rfl, ex_l ((e.trans e2).trans e3) hl, rfl, rfl, by cases k <;> rfl, by rw [kd_eq]; exact decide_eq_true rfl, fun m z hm hz => by
      obtain ⟨k2, e4, rfl⟩ := kd_at hz
      rw [kd_eq]
      refine decide_eq_false fun e5 => ?_
      subst e5
      omega, q H3 (e2.trans e3)⟩⟩
theorem q_asgT2 {i j : Nat} {x y : V} {te : TE} (h : EvU te σ H [x, y]) (k : ∀ H1, Ex H H1 → tz D ((σ.set i (some x)).set j (some y)) H1) : tSeq (tAsg te (gTup K 2 (gCons (gName i) (gCons (gName j) gNil)))) tz D σ H :=
  h H (Ex.refl H) _ fun p H1 _ e h1 => ⟨p, _, rfl, st_of h1, rfl, _, _, rfl, _, _, rfl, rfl, k H1 e⟩
theorem q_asgL2 {i j : Nat} {x y : V} {l : Addr} {te : TE} (h : Ev te σ H (.ref l)) (hl : SqL K H l [x, y]) (k : ∀ H1, Ex H H1 → tz D ((σ.set i (some x)).set j (some y)) H1) : tSeq (tAsg te (gUnl K 2 (gCons (gName i) (gCons (gName j) gNil)))) tz D σ H :=
  h H (Ex.refl H) _ fun H1 e => ⟨l, _, rfl, ex_l e hl, rfl, _, _, rfl, _, _, rfl, rfl, k H1 e⟩
end
theorem Md.law_prom (m : Md) (h : m.Ok) (k : Kd) (hk : k.ix < 5) : m.prom k = if (m.un k && decide (m.b k = m.b .it)) = true then .ui else .it := by
  obtain ⟨h0, h1, h2, h3, h4, h5⟩ := h
  unfold Md.prom
  have hr : ¬ 2 ≤ k.rk := by
    revert hk
    cases k <;> decide
  rw [if_neg hr]
  have hb : m.b k ≤ m.b .it := by
    revert hr
    cases k <;> simp only [Md.b, Md.w, Kd.rk] <;> omega
  by_cases hu : m.un k = true
  · rw [hu]
    by_cases e : m.b k = m.b .it
    · rw [if_pos ⟨rfl, by omega⟩, if_pos (by simp [e])]
    · rw [if_neg (fun z => e (by omega)), if_neg (by simp [e])]
  · rw [if_neg (fun z => hu z.1), if_neg (by simp [hu])]
theorem Md.prom_ix (m : Md) (k : Kd) (hk : ¬ k.ix < 5) : m.prom k = k := by
  unfold Md.prom
  rw [if_pos]
  revert hk
  cases k <;> decide
theorem Md.com2_same (m : Md) {a b : Kd} (ha : a.big) (hb : b.big) (h : a.isU = b.isU) : m.com2 a b = if b.ix ≤ a.ix then a else b := by
  rcases ha with rfl | rfl | rfl | rfl | rfl | rfl <;> rcases hb with rfl | rfl | rfl | rfl | rfl | rfl <;> first | (exact absurd h (by decide)) | rfl
theorem Md.com2_mix (m : Md) {a b : Kd} (ha : a.big) (hb : b.big) (h : a.isU ≠ b.isU) : m.com2 a b = if a.isU = true then m.mix a b else m.mix b a := by
  unfold Md.com2
  rw [un_isU m (big_ch ha), un_isU m (big_ch hb), if_neg h]
theorem Md.mix_law (m : Md) {x y : Kd} (hx : x.big) (hy : y.big) (ux : x.isU = true) (uy : y.isU = false) : m.mix x y = if y.ix < x.ix then x else if m.b x < m.b y then y else uKd y.rk := by
  rcases hx with rfl | rfl | rfl | rfl | rfl | rfl <;> rcases hy with rfl | rfl | rfl | rfl | rfl | rfl <;> first | (exact absurd ux (by decide)) | (exact absurd uy (by decide)) | rfl
theorem u_add {y : Kd} (hy : y.big) (uy : y.isU = false) : ("u" : Str) ++ y.s = (uKd y.rk).s := by
  rcases hy with rfl | rfl | rfl | rfl | rfl | rfl <;> first | (exact absurd uy (by decide)) | decide +kernel
theorem u_len {y : Kd} : ("u" : Str).length + y.s.length ≤ sizeLine := sz_of (by cases y <;> decide +kernel)
theorem kd_eq2 (a b : Kd) : decide (a.v = b.v) = decide (a = b) := by cases a <;> cases b <;> decide +kernel
/-- an operation whose left side is a new tuple -/
theorem ev_opU1 {σ : L2.St} {H : Hp} {ta tb : TE} {r : R2} {y z : V} {xs : List V} (ha : EvU ta σ H xs) (hb : ∀ H1, Ex H H1 → Ev tb σ H1 y) (hr : ∀ p H1, H1 p = some (.tup xs) → Ex H H1 → RV r (.ref p) y H1 z) : Ev (tOp r ta tb) σ H z := fun H1 e Q q =>
  ha H1 e _ fun p H2 n2 e2 h2 => hb H2 (e.trans e2) H2 (Ex.refl H2) _ fun H3 e3 => hr p H3 (e3 _ _ h2) ((e.trans e2).trans e3) H3 (Ex.refl H3) _ fun H4 e4 => q H4 ((e2.trans e3).trans e4)
end Cf

set_option exponentiation.threshold 20000
namespace Cf
open PySem PySem.Spec PyProof.Rows L2 Evl
/-! ## repr of data with great ints -/
mutual
def SmW : PyData → Prop
  | .none => True
  | .bool _ => True
  | .int i => i.natAbs < 2 ^ 400
  | .str x => x.cps.size ≤ 30 ∧ (x.cps.toList.all fun c => decide (c < 16 ^ 8)) = true
  | .list xs => SmWAll xs
  | .tuple xs => SmWAll xs
  | .dict _ => False
def SmWAll : List PyData → Prop
  | [] => True
  | x :: xs => SmW x ∧ SmWAll xs
end
theorem int_lenW {i : Int} (h : i.natAbs < 2 ^ 400) : (PyData.shown (.int i)).length ≤ 401 := by
  have h1 := int_text_length_le (a := i) (k := 400) (by decide) (PySem.Flt.log2_lt_of (by decide) h)
  simp only [PyData.shown]
  show (Str.ofString (toString i)).length ≤ 401
  have e : (Str.ofString (toString i)).length = (toString i).length := PySem.ofString_length _
  omega
mutual
theorem smw_all : ∀ d : PyData, SmW d → d.showable = true ∧ d.hasDict = false ∧ d.leavesShort 401 = true ∧ d.weight + 1 ≤ 402 * szD d
  | .none, _ => ⟨by simp only [PyData.showable], by simp only [PyData.hasDict], by simp only [PyData.leavesShort], by simp only [PyData.weight, szD]; omega⟩
  | .bool _, _ => ⟨by simp only [PyData.showable], by simp only [PyData.hasDict], by simp only [PyData.leavesShort], by simp only [PyData.weight, szD]; omega⟩
  | .int i, h => by
    have h1 : i.natAbs < 2 ^ 400 := h
    have h2 : i.natAbs.log2 < 400 := PySem.Flt.log2_lt_of (by decide) h1
    refine ⟨?_, by simp only [PyData.hasDict], ?_, ?_⟩
    · simp only [PyData.showable]
      exact decide_eq_true (by omega)
    · simp only [PyData.leavesShort]
      exact decide_eq_true (int_lenW h1)
    · simp only [PyData.weight, szD]
      split <;> omega
  | .str x, h => by
    have h1 : x.cps.size ≤ 30 ∧ (x.cps.toList.all fun c => decide (c < 16 ^ 8)) = true := h
    refine ⟨by simp only [PyData.showable], by simp only [PyData.hasDict], ?_, ?_⟩
    · simp only [PyData.leavesShort]
      exact h1.2
    · simp only [PyData.weight, szD]
      omega
  | .list xs, h => by
    obtain ⟨a, b, c, e⟩ := smw_alls xs h
    refine ⟨by simp only [PyData.showable]; exact a, by simp only [PyData.hasDict]; exact b, by simp only [PyData.leavesShort]; exact c, ?_⟩
    simp only [PyData.weight, szD]
    omega
  | .tuple xs, h => by
    obtain ⟨a, b, c, e⟩ := smw_alls xs h
    refine ⟨by simp only [PyData.showable]; exact a, by simp only [PyData.hasDict]; exact b, by simp only [PyData.leavesShort]; exact c, ?_⟩
    simp only [PyData.weight, szD]
    omega
  | .dict _, h => h.elim
theorem smw_alls : ∀ ds : List PyData, SmWAll ds → PyData.showableAll ds = true ∧ PyData.hasDictAll ds = false ∧ PyData.leavesShortAll 401 ds = true ∧ PyData.weightAll ds ≤ 402 * szAll ds
  | [], _ => ⟨by simp only [PyData.showableAll], by simp only [PyData.hasDictAll], by simp only [PyData.leavesShortAll], by simp only [PyData.weightAll]; omega⟩
  | x :: xs, h => by
    obtain ⟨a1, b1, c1, e1⟩ := smw_all x h.1
    obtain ⟨a2, b2, c2, e2⟩ := smw_alls xs h.2
    refine ⟨by simp only [PyData.showableAll, a1, a2]; rfl, by simp only [PyData.hasDictAll, b1, b2]; rfl, by simp only [PyData.leavesShortAll, c1, c2]; rfl, ?_⟩
    simp only [PyData.weightAll, szAll]
    omega
end
theorem smw_len {d : PyData} (h : SmW d) (z : szD d ≤ 100) : d.shown.length ≤ sizeLine := by
  obtain ⟨_, _, c, e⟩ := smw_all d h
  have h1 := PyData.shown_le 401 (by decide) d c
  have h2 := sizeLine_eq
  omega
/-! ## values told as data -/
def EvP (K : PySem.W.Frag) (te : TE) (σ : L2.St) (H : Hp) (d : PyData) : Prop := ∀ H1, Ex H H1 → ∀ Q : VK, (∀ v H2, Ex H1 H2 → Dp K H2 v d → Q v H2) → te σ H1 Q
def EvAP (K : PySem.W.Frag) (ta : TA) (σ : L2.St) (H : Hp) (ds : List PyData) : Prop := ∀ H1, Ex H H1 → ∀ Q : List V → Hp → Prop, (∀ vs H2, Ex H1 H2 → DpAll K H2 vs ds → Q vs H2) → ta σ H1 Q
/-- what a def gives as data -/
def PDt (K : PySem.W.Frag) (pre : List V → Hp → PyData → Prop) : Sp := fun vs H Q _ => ∃ d, pre vs H d ∧ ∀ v H', Ex H H' → Dp K H' v d → Q v H'
theorem pre_lenD {K : PySem.W.Frag} {pre : List V → Hp → PyData → Prop} {n : Nat} (h : ∀ vs H v, pre vs H v → vs.length = n) : ∀ vs H Q E, PDt K pre vs H Q E → vs.length = n := fun vs H Q E q => by
  obtain ⟨v, a, _⟩ := q
  exact h _ _ _ a
section
variable {K : PySem.W.Frag} {σ : L2.St} {H : Hp} {ta tb te : TE} {tr : TA} {d e : PyData} {ds es : List PyData} {v : V} {xs vs : List V}
theorem ed_of (h : Ev te σ H v) (hd : ∀ H1, Ex H H1 → Dp K H1 v d) : EvP K te σ H d := fun H1 e Q q => h H1 e _ fun H2 e2 => q v H2 e2 (hd H2 (e.trans e2))
theorem ead_nil : EvAP K tNil σ H [] := fun H1 _ _ q => q [] H1 (Ex.refl H1) .nil
theorem ead_cons (h : EvP K te σ H d) (hr : EvAP K tr σ H ds) : EvAP K (tCons te tr) σ H (d :: ds) := fun H1 e Q q => h H1 e _ fun v H2 e2 hv => hr H2 (e.trans e2) _ fun vs H3 e3 hvs => q (v :: vs) H3 (e2.trans e3) (.cons (dp_ex e3 d v hv) hvs)
theorem dps_len : ∀ {ds : List PyData} {vs : List V}, DpAll K H vs ds → vs.length = ds.length
  | [], _, h => by cases h; rfl
  | d :: ds, _, h => by
    cases h with
    | cons a b => exact congrArg (· + 1) (dps_len b)
theorem ed_lst (h : EvAP K tr σ H ds) (hl : ds.length ≤ 100000) : EvP K (tLst tr) σ H (.list ds) := fun H1 e Q q => h H1 e _ fun vs H2 e2 hvs => ⟨sz_of (by rw [dps_len hvs]; exact hl), fun p np => q (.ref p) _ (e2.trans (Ex.new np)) (.lst (sq_of upd_same) (dps_ex (Ex.new np) ds vs hvs))⟩
theorem ed_tup (h : EvAP K tr σ H ds) (hl : ds.length ≤ 100000) : EvP K (tTup tr) σ H (.tuple ds) := fun H1 e Q q => h H1 e _ fun vs H2 e2 hvs => ⟨sz_of (by rw [dps_len hvs]; exact hl), fun p np => q (.ref p) _ (e2.trans (Ex.new np)) (.tup (st_of upd_same) (dps_ex (Ex.new np) ds vs hvs))⟩
theorem ed_if {t : TT} {b : Bool} (h : EvT t σ H b) (h1 : b = true → EvP K ta σ H d) (h2 : b = false → EvP K tb σ H d) : EvP K (tIf t ta tb) σ H d := fun H1 e Q q => h H1 e _ fun H2 e2 => by
  cases b with
  | true => exact iteT (h1 rfl H2 (e.trans e2) Q fun v H3 e3 h3 => q v H3 (e2.trans e3) h3)
  | false => exact iteF (h2 rfl H2 (e.trans e2) Q fun v H3 e3 h3 => q v H3 (e2.trans e3) h3)
theorem ed_call {sp : List V → Hp → PyData → Prop} {E : XK} {ta : TA} (h : EvA ta σ H vs) (hs : ∀ H1, Ex H H1 → sp vs H1 d) : EvP K (tCall (PDt K sp) [] E ta) σ H d := fun H1 e Q q =>
  h H1 e _ fun H2 e2 => ⟨d, by rw [List.append_nil]; exact hs H2 (e.trans e2), fun v H3 e3 hv => q v H3 (e2.trans e3) hv⟩
theorem ed_kw {sp : List V → Hp → PyData → Prop} {m : Nat} {gV : List V → List V} {E : XK} {tk : TA} {zs : List V} (h : EvA tk σ H zs) (hl : zs.length = m) (hs : ∀ H1, Ex H H1 → sp (gV zs) H1 d) : EvP K (tKw m (PDt K sp) gV E tk) σ H d := fun H1 e Q q =>
  h H1 e _ fun H2 e2 => ⟨hl, d, hs H2 (e.trans e2), fun v H3 e3 hv => q v H3 (e2.trans e3) hv⟩
theorem q_asgD {i : Nat} {tz : TS} {D : Ends} (h : EvP K te σ H d) (k : ∀ v H1, Ex H H1 → Dp K H1 v d → tz D (σ.set i (some v)) H1) : tSeq (tAsg te (gName i)) tz D σ H := h H (Ex.refl H) _ fun v H1 e hv => k v H1 e hv
theorem s_retD {D : Ends} (h : EvP K te σ H d) (k : ∀ v H1, Ex H H1 → Dp K H1 v d → D.rt v H1) : tRet te D σ H := h H (Ex.refl H) _ k
theorem ev_reprD (h : EvP K te σ H (.list ds)) (hs : SmWAll ds) (hz : szD (.list ds) ≤ 100) (hp : (PyData.list ds).depth ≤ 60) : Ev (tCB (rRepr K) (tCons te tNil)) σ H (.str (PyData.shown (.list ds))) := fun H1 e Q q =>
  h H1 e _ fun v H2 e2 hv => by
    cases hv with
    | lst a b => exact ⟨_, .list ds, rfl, .lst a b, (smw_all (.list ds) hs).1, (smw_all (.list ds) hs).2.1, smw_len (d := .list ds) hs hz, hp, q H2 e2⟩
end
/-! ## mixed comparisons -/
def Md.sgn (m : Md) (k l : Kd) : Option Kd := if m.un (m.com k l) = true then (if m.un k = false then some k else if m.un l = false then some l else none) else none
def sgV : Option Kd → V
  | none => .non
  | some k => k.v
def Md.cw (m : Md) (k l : Kd) : Int := match m.sgn k l with
  | none => 0
  | some s => if s = k then 2 ^ (m.b s - 1) * (2 * (2 ^ m.b (m.com k l) - 1) - 2 ^ (m.b s - 1) + 1) / 2 + 2 ^ (m.b s - 1) else 2 ^ (m.b s - 1) * (2 * (2 ^ m.b (m.com k l) - 1) - 2 ^ (m.b s - 1) + 1) / 2
def Md.fw (m : Md) (k l : Kd) : PyData := match m.sgn k l with
  | none => .none
  | some s => if s = k then .tuple [.int (m.low s), .int 0] else .tuple [.int 0, .int (m.low s)]
def preMD (K : PySem.W.Frag) (g : Md → Kd → Kd → PyData) : List V → Hp → PyData → Prop := fun vs H d => ∃ p m k l, vs = [.ref p, k.v, l.v] ∧ AtM K H p m ∧ m.Ok ∧ d = g m k l
theorem Md.prom_un (m : Md) (h : m.Ok) (k : Kd) : (m.un k = false → (m.prom k).isU = false ∧ m.b k ≤ m.b (m.prom k)) ∧ ((m.prom k).isU = true → m.un k = true ∧ m.b k = m.b (m.prom k)) := by
  obtain ⟨h0, h1, h2, h3, h4, h5⟩ := h
  by_cases hr : 2 ≤ k.rk
  · have e : m.prom k = k := by unfold Md.prom; rw [if_pos hr]
    rw [e]
    have hk : k ≠ .ch := fun z => by rw [z] at hr; exact absurd hr (by decide)
    rw [un_isU m hk]
    exact ⟨fun q => ⟨q, Nat.le_refl _⟩, fun q => ⟨q, rfl⟩⟩
  · have hb : m.b k ≤ m.b .it := by
      revert hr
      cases k <;> simp only [Md.b, Md.w, Kd.rk] <;> omega
    unfold Md.prom
    rw [if_neg hr]
    by_cases c : m.un k = true ∧ m.b .it ≤ m.b k
    · rw [if_pos c]
      refine ⟨fun q => ?_, fun q => ⟨c.1, ?_⟩⟩
      · rw [c.1] at q
        exact nomatch q
      · show m.b k = m.b .it
        omega
    · rw [if_neg c]
      exact ⟨fun _ => ⟨rfl, hb⟩, fun q => nomatch q⟩
theorem Md.mix_un (m : Md) (h : m.Ok) {x y : Kd} (hx : x.big) (hy : y.big) (ux : x.isU = true) (uy : y.isU = false) : (m.un (m.mix x y) = true → m.b (m.mix x y) = m.b x ∧ m.b y ≤ m.b x) ∧ (m.un (m.mix x y) = false → m.mix x y = y) := by
  obtain ⟨h0, h1, h2, h3, h4, h5⟩ := h
  rcases hx with rfl | rfl | rfl | rfl | rfl | rfl <;> first | (exact absurd ux (by decide)) | skip
  all_goals (rcases hy with rfl | rfl | rfl | rfl | rfl | rfl <;> first | (exact absurd uy (by decide)) | skip)
  all_goals (simp only [Md.mix, Kd.rk, Md.b, Md.w, uKd] <;> (repeat' split) <;> simp_all [Md.un, Kd.rk, Md.b, Md.w, uKd] <;> omega)
/-- the shape of a pair of types whose common type is unsigned while one of them is signed -/
theorem Md.sgn_cases (m : Md) (h : m.Ok) (k l : Kd) : (m.sgn k l = none ∧ (m.un (m.com k l) = false ∨ m.un k = true ∧ m.un l = true)) ∨
    (m.sgn k l = some k ∧ m.un (m.com k l) = true ∧ m.un k = false ∧ m.un l = true ∧ m.b l = m.b (m.com k l) ∧ m.b k ≤ m.b (m.com k l)) ∨
    (m.sgn k l = some l ∧ k ≠ l ∧ m.un (m.com k l) = true ∧ m.un k = true ∧ m.un l = false ∧ m.b k = m.b (m.com k l) ∧ m.b l ≤ m.b (m.com k l)) := by
  cases hc : m.un (m.com k l) with
  | false => exact .inl ⟨by unfold Md.sgn; rw [hc, if_neg (by decide)], .inl rfl⟩
  | true =>
    have ek : m.com k l = m.com2 (m.prom k) (m.prom l) := rfl
    have pk := m.prom_un h k
    have pl := m.prom_un h l
    have bk := m.prom_big k
    have bl := m.prom_big l
    cases uk : m.un k with
    | false =>
      obtain ⟨u1, b1⟩ := pk.1 uk
      have hs : m.sgn k l = some k := by unfold Md.sgn; rw [hc, if_pos rfl, uk, if_pos rfl]
      cases u2 : (m.prom l).isU with
      | false =>
        have e := m.com2_same bk bl (u1.trans u2.symm)
        rw [ek, e] at hc
        split at hc
        · rw [un_isU m (big_ch bk), u1] at hc
          exact nomatch hc
        · rw [un_isU m (big_ch bl), u2] at hc
          exact nomatch hc
      | true =>
        obtain ⟨ul, b2⟩ := pl.2 u2
        have e := m.com2_mix bk bl (by rw [u1, u2]; decide)
        rw [u1, if_neg (by decide)] at e
        have mu := m.mix_un h bl bk u2 u1
        rw [ek, e] at hc ⊢
        obtain ⟨m1, m2⟩ := mu.1 hc
        exact .inr (.inl ⟨hs, rfl, rfl, ul, by omega, by omega⟩)
    | true =>
      cases ul : m.un l with
      | true => exact .inl ⟨by unfold Md.sgn; rw [hc, if_pos rfl, uk, ul]; rfl, .inr ⟨rfl, rfl⟩⟩
      | false =>
        obtain ⟨u2, b2⟩ := pl.1 ul
        have hs : m.sgn k l = some l := by unfold Md.sgn; rw [hc, if_pos rfl, uk, ul]; rfl
        have nkl : k ≠ l := fun z => by rw [z, ul] at uk; exact nomatch uk
        cases u1 : (m.prom k).isU with
        | false =>
          have e := m.com2_same bk bl (u1.trans u2.symm)
          rw [ek, e] at hc
          split at hc
          · rw [un_isU m (big_ch bk), u1] at hc
            exact nomatch hc
          · rw [un_isU m (big_ch bl), u2] at hc
            exact nomatch hc
        | true =>
          obtain ⟨uk2, b1⟩ := pk.2 u1
          have e := m.com2_mix bk bl (by rw [u1, u2]; decide)
          rw [u1, if_pos rfl] at e
          have mu := m.mix_un h bk bl u1 u2
          rw [ek, e] at hc ⊢
          obtain ⟨m1, m2⟩ := mu.1 hc
          exact .inr (.inr ⟨hs, nkl, rfl, rfl, rfl, by omega, by omega⟩)
theorem q_par3 {σ : L2.St} {H : Hp} {ta tb tc : TE} {tz : TS} {D : Ends} {i j l : Nat} {x y z : V} (ha : Ev ta σ H x) (hb : Ev tb σ H y) (hc : Ev tc σ H z) (k : ∀ H1, Ex H H1 → tz D (((σ.set i (some x)).set j (some y)).set l (some z)) H1) : tSeq (tPar3 i j l (tCons ta (tCons tb (tCons tc tNil)))) tz D σ H :=
  ha H (Ex.refl H) _ fun H1 e1 => hb H1 e1 _ fun H2 e2 => hc H2 (e1.trans e2) _ fun H3 e3 => ⟨x, y, z, rfl, k H3 (e1.trans (e2.trans e3))⟩
theorem ed_eq {K : PySem.W.Frag} {σ : L2.St} {H : Hp} {ta tb : TE} {d e : PyData} {b : Bool} (ha : EvP K ta σ H d) (hb : EvP K tb σ H e) (sd : SeqAt.shaped d = true) (se : SeqAt.shaped e = true) (hq : PyData.eqv d e = b) : Ev (tOp (rEqD K) ta tb) σ H (.bl b) := fun H1 e1 Q q =>
  ha H1 e1 _ fun x H2 e2 hx => hb H2 (e1.trans e2) _ fun y H3 e3 hy => ⟨d, e, dp_ex e3 d x hx, hy, sd, se, by rw [hq]; exact q H3 (e2.trans e3)⟩
theorem Md.low_un (m : Md) {k : Kd} (h : m.un k = true) : m.low k = 0 := by unfold Md.low; rw [if_pos h]
theorem Md.low_sg (m : Md) {k : Kd} (h : m.un k = false) : m.low k = -(2 ^ (m.b k - 1)) ∧ m.low k < 0 := by
  have e : m.low k = -(2 ^ (m.b k - 1)) := by unfold Md.low; rw [if_neg (by rw [h]; decide)]
  have p := p2 (m.b k - 1)
  exact ⟨e, by omega⟩
theorem Md.high_un (m : Md) {k : Kd} (h : m.un k = true) : m.high k = 2 ^ m.b k - 1 := by unfold Md.high; rw [if_pos h]
def fallen (many high top : Int) : Int :=
  (if (if top - many + 1 > 0 then top - many + 1 else 0) < high + 1 then (if top - many + 1 > 0 then top - many + 1 else 0) else high + 1) * many +
    (high + 1 - (if (if top - many + 1 > 0 then top - many + 1 else 0) < high + 1 then (if top - many + 1 > 0 then top - many + 1 else 0) else high + 1)) *
      (top - (if (if top - many + 1 > 0 then top - many + 1 else 0) < high + 1 then (if top - many + 1 > 0 then top - many + 1 else 0) else high + 1) + top - high) / 2
theorem half_sum (a b c : Int) (h : 2 * a + b = c) : a + b / 2 = c / 2 := by omega
/-- rows that fall by one, from below or with the ends -/
theorem fallen_a {a b : Int} (h1 : 1 ≤ a) (h2 : a ≤ b) : fallen a (b - 1) b = a * (2 * (b - 1) - a + 1) / 2 + a := by
  unfold fallen
  have c1 : b - a + 1 > 0 := by omega
  rw [if_pos c1]
  have e1 : b - 1 + 1 = b := by omega
  rw [e1]
  have e2 : (if b - a + 1 < b then b - a + 1 else b) = b - a + 1 := by split <;> omega
  rw [e2]
  have e3 : b - (b - a + 1) = a - 1 := by omega
  have e4 : b - (b - a + 1) + b - (b - 1) = a := by omega
  rw [e4, e3]
  have k1 : (b - a + 1) * a = b * a - a * a + a := by rw [Int.add_mul, Int.sub_mul, Int.one_mul]
  have k2 : (a - 1) * a = a * a - a := by rw [Int.sub_mul, Int.one_mul]
  have k3 : a * (2 * (b - 1) - a + 1) = 2 * (b * a) - a * a - a := by
    rw [Int.mul_add, Int.mul_sub, Int.mul_one, Int.mul_comm a (2 * (b - 1)), Int.mul_assoc, Int.sub_mul, Int.one_mul, Int.mul_sub]
    omega
  rw [k1, k2, k3]
  generalize b * a = x
  generalize a * a = y
  omega
theorem fallen_b {a b : Int} (h1 : 1 ≤ a) (h2 : a ≤ b) : fallen a (b - 1) (b - 1) = a * (2 * (b - 1) - a + 1) / 2 := by
  unfold fallen
  have e1 : b - 1 + 1 = b := by omega
  have e2 : (if b - 1 - a + 1 > 0 then b - 1 - a + 1 else 0) = b - a := by split <;> omega
  rw [e2, e1]
  have e3 : (if b - a < b then b - a else b) = b - a := by split <;> omega
  rw [e3]
  have e4 : b - (b - a) = a := by omega
  have e5 : b - 1 - (b - a) + (b - 1) - (b - 1) = a - 1 := by omega
  rw [e4, e5]
  have k1 : (b - a) * a = b * a - a * a := by rw [Int.sub_mul]
  have k2 : a * (a - 1) = a * a - a := by rw [Int.mul_sub, Int.mul_one]
  have k3 : a * (2 * (b - 1) - a + 1) = 2 * (b * a) - a * a - a := by
    rw [Int.mul_add, Int.mul_sub, Int.mul_one, Int.mul_comm a (2 * (b - 1)), Int.mul_assoc, Int.sub_mul, Int.one_mul, Int.mul_sub]
    omega
  rw [k1, k2, k3]
  generalize b * a = x
  generalize a * a = y
  omega
theorem pow_lt128 {n : Nat} (h : n ≤ 128) : (2 : Int) ^ n ≤ 2 ^ 128 := by
  have : (2 : Nat) ^ n ≤ 2 ^ 128 := Nat.pow_le_pow_right (by decide) h
  exact_mod_cast this
theorem Md.cw_small (m : Md) (h : m.Ok) (k l : Kd) : (m.cw k l).natAbs < 2 ^ 400 := by
  unfold Md.cw
  cases hs : m.sgn k l with
  | none => show (0 : Int).natAbs < 2 ^ 400; decide
  | some s =>
    have a0 := p2 (m.b s - 1)
    have b0 := p2 (m.b (m.com k l))
    have a1 := pow_lt128 (n := m.b s - 1) (by have := (h.b s).2; omega)
    have b1 := pow_lt128 (n := m.b (m.com k l)) (h.b _).2
    simp only []
    generalize (2 : Int) ^ (m.b s - 1) = a at *
    generalize (2 : Int) ^ m.b (m.com k l) = b at *
    have e : (a * (2 * (b - 1) - a + 1)).natAbs < 2 ^ (140 + 140) := wide_lt (by omega) (by omega)
    generalize a * (2 * (b - 1) - a + 1) = x at *
    split <;> omega
theorem Md.fw_small (m : Md) (h : m.Ok) (k l : Kd) : SmW (m.fw k l) ∧ szD (m.fw k l) ≤ 3 ∧ (m.fw k l).depth ≤ 3 := by
  unfold Md.fw
  cases hs : m.sgn k l with
  | none => exact ⟨trivial, by simp [szD], by simp [PyData.depth]⟩
  | some s =>
    have hl := (m.small h s).1
    have hl2 : SmW (.int (m.low s)) := by show (m.low s).natAbs < 2 ^ 400; omega
    have h0 : SmW (.int 0) := by show (0 : Int).natAbs < 2 ^ 400; decide
    simp only []
    split
    · exact ⟨⟨hl2, h0, trivial⟩, by simp [szD, szAll], by simp [PyData.depth, PyData.depthAll]⟩
    · exact ⟨⟨h0, hl2, trivial⟩, by simp [szD, szAll], by simp [PyData.depth, PyData.depthAll]⟩
def preFal : List V → Hp → V → Prop := fun vs H v => ∃ a b c : Int, vs = [.int a, .int b, .int c] ∧ a.natAbs < 2 ^ 140 ∧ b.natAbs < 2 ^ 140 ∧ c.natAbs < 2 ^ 140 ∧ v = .int (fallen a b c)
theorem spFal {H : Hp} {a b c : Int} (h1 : a.natAbs < 2 ^ 140) (h2 : b.natAbs < 2 ^ 140) (h3 : c.natAbs < 2 ^ 140) : SpV (PV preFal) [.int a, .int b, .int c] H (.int (fallen a b c)) := PV.sp fun H1 e => ⟨a, b, c, rfl, h1, h2, h3, rfl⟩
def mixD (m : Md) (k l : Kd) : PyData := .list [.int (m.cw k l), m.fw k l]
theorem mixD_ok (m : Md) (h : m.Ok) (k l : Kd) : SmWAll [.int (m.cw k l), m.fw k l] ∧ szD (mixD m k l) ≤ 100 ∧ (mixD m k l).depth ≤ 60 := by
  obtain ⟨a, b, c⟩ := m.fw_small h k l
  refine ⟨⟨m.cw_small h k l, a, trivial⟩, ?_, ?_⟩
  · simp only [mixD, szD, szAll]
    omega
  · simp only [mixD, PyData.depth, PyData.depthAll]
    omega
end Cf

set_option exponentiation.threshold 20000
namespace Cf
open PySem PySem.Spec PyProof.Rows L2 Evl
/-! ## comparisons that go wrong, tried one by one -/
theorem kd_draw {K : PySem.W.Frag} {σ : L2.St} {H : Hp} {r : Addr} {n j : Nat} {E E2 : XK} {Q : VK} (g : Rng H r n) (hn : n < 2 ^ 60) (hj : σ[j]? = some (some (.ref r))) (k : ∀ H' kd, Bu r H H' → Rng H' r (n + 1) → Q (Kd.v kd) H') :
    tOp (rIxL K) (tCall (PL (preNil vKINDS)) [] E tNil) (tCall spDraw [] E2 (tCons (tVar j) (tCons (tC (.int 11)) tNil))) σ H Q := by
  refine op_raw ((show EvL (tCall (PL (preNil vKINDS)) [] E tNil) σ H vKINDS from el_call ea_nil (PL.sp fun H7 e7 => ⟨rfl, rfl⟩)) H (Ex.refl H) _ fun t H1 n1 e1 h1 => ?_)
  have g1 := g.ex e1
  have htr : t ≠ r := by
    obtain ⟨d, s, c, q, _⟩ := g
    exact fun z => by rw [z, q] at n1; exact nomatch n1
  refine draw_at (l := 11) (n := n) (ea_cons (ev_var hj) (ea_cons ev_c ea_nil)) (by decide) (log_small (by decide)) hn g1 fun H2 v b2 g2 v0 v1 => ?_
  obtain ⟨i, rfl⟩ : ∃ i : Nat, v = (i : Int) := ⟨v.toNat, by omega⟩
  have hi : i < vKINDS.length := by show i < 11; omega
  obtain ⟨kd, _, hkd⟩ := kd_at (List.getElem?_eq_getElem hi)
  exact ⟨t, _, (i : Int), _, rfl, rfl, sq_of (b2 _ _ htr h1), atI_nat ((List.getElem?_eq_getElem hi).trans (by rw [hkd])), k H2 kd ((Bu.of e1).trans b2) g2⟩
def wrB (x y : Bool) : Bool := !decide (V.bl x = V.bl y)
theorem wrB_eq (x y : Bool) : wrB x y = (x != y) := by cases x <;> cases y <;> decide
def Md.wr (m : Md) (c : Kd) (l r : Int) : Bool := wrB (decide (m.conv c l < m.conv c r)) (decide (l < r))
def rowW (f : Int → Bool) (l b : Int) : Nat → List (Int × Int) → List (Int × Int)
  | 0, w => w
  | n + 1, w => if f (b + n) = true then rowW f l b n w ++ [(l, b + n)] else rowW f l b n w
def totW (f : Int → Int → Bool) (a b : Int) (n2 : Nat) : Nat → List (Int × Int)
  | 0 => []
  | n + 1 => rowW (f (a + n)) (a + n) b n2 (totW f a b n2 n)
abbrev Cnt := Nat × Option (Int × Int)
def rowC (f : Int → Bool) (l b : Int) : Nat → Cnt → Cnt
  | 0, w => w
  | n + 1, w => if f (b + n) = true then ((rowC f l b n w).1 + 1, (rowC f l b n w).2.or (some (l, b + n))) else rowC f l b n w
def totC (f : Int → Int → Bool) (a b : Int) (n2 : Nat) : Nat → Cnt
  | 0 => (0, none)
  | n + 1 => rowC (f (a + n)) (a + n) b n2 (totC f a b n2 n)
def cntOf (w : List (Int × Int)) : Cnt := (w.length, w.head?)
theorem row_cnt (f : Int → Bool) (l b : Int) : ∀ (n : Nat) (w : List (Int × Int)), cntOf (rowW f l b n w) = rowC f l b n (cntOf w)
  | 0, w => rfl
  | n + 1, w => by
    have ih := row_cnt f l b n w
    simp only [rowW, rowC]
    split
    · rw [← ih]
      simp [cntOf]
    · exact ih
theorem tot_cnt (f : Int → Int → Bool) (a b : Int) (n2 : Nat) : ∀ n, cntOf (totW f a b n2 n) = totC f a b n2 n
  | 0 => rfl
  | n + 1 => by rw [totW, row_cnt, tot_cnt f a b n2 n]; rfl
theorem row_len (f : Int → Bool) (l b : Int) : ∀ (n : Nat) (w : List (Int × Int)), (rowW f l b n w).length ≤ w.length + n
  | 0, w => Nat.le_refl _
  | n + 1, w => by
    have ih := row_len f l b n w
    simp only [rowW]
    split
    · rw [List.length_append]
      simp only [List.length_singleton]
      omega
    · omega
theorem tot_len (f : Int → Int → Bool) (a b : Int) (n2 : Nat) : ∀ n, (totW f a b n2 n).length ≤ n * n2
  | 0 => by simp [totW]
  | n + 1 => by
    have h := row_len (f (a + n)) (a + n) b n2 (totW f a b n2 n)
    have ih := tot_len f a b n2 n
    rw [totW, Nat.succ_mul]
    omega
theorem row_no {f : Int → Bool} {l b : Int} : ∀ {n : Nat} {w : List (Int × Int)}, (∀ i : Nat, i < n → f (b + i) = false) → rowW f l b n w = w
  | 0, w, _ => rfl
  | n + 1, w, h => by
    simp only [rowW]
    rw [h n (Nat.lt_succ_self n), if_neg (by decide)]
    exact row_no fun i hi => h i (by omega)
theorem tot_no {f : Int → Int → Bool} {a b : Int} {n2 : Nat} : ∀ {n : Nat}, (∀ i j : Nat, i < n → j < n2 → f (a + i) (b + j) = false) → totW f a b n2 n = []
  | 0, _ => rfl
  | n + 1, h => by
    rw [totW, tot_no fun i j hi hj => h i j (by omega) hj]
    exact row_no fun j hj => h n j (Nat.lt_succ_self n) hj
theorem row_ext {f g : Int → Bool} {l b : Int} : ∀ {n : Nat} {w : List (Int × Int)}, (∀ i : Nat, i < n → f (b + i) = g (b + i)) → rowW f l b n w = rowW g l b n w
  | 0, w, _ => rfl
  | n + 1, w, h => by
    simp only [rowW]
    rw [h n (Nat.lt_succ_self n), row_ext fun i hi => h i (by omega)]
theorem tot_ext {f g : Int → Int → Bool} {a b : Int} {n2 : Nat} : ∀ {n : Nat}, (∀ i j : Nat, i < n → j < n2 → f (a + i) (b + j) = g (a + i) (b + j)) → totW f a b n2 n = totW g a b n2 n
  | 0, _ => rfl
  | n + 1, h => by
    rw [totW, totW, tot_ext fun i j hi hj => h i j (by omega) hj]
    exact row_ext fun j hj => h n j (Nat.lt_succ_self n) hj
/-- an integer becomes one of an unsigned type of n bits -/
def cnU (n : Nat) (i : Int) : Int := i % 2 ^ n
def wrU (n : Nat) (l r : Int) : Bool := (decide (cnU n l < cnU n r) != decide (l < r))
/-- the first type is signed, of s bits; the second one unsigned, of n bits -/
def chkB (s n : Nat) : Bool := decide (totC (wrU n) (-(2 ^ (s - 1))) 0 (2 ^ n) (2 ^ s) = ((2 ^ (s - 1) * (2 * (2 ^ n - 1) - 2 ^ (s - 1) + 1) / 2 + 2 ^ (s - 1) : Int).toNat, some (-(2 ^ (s - 1)), 0)))
def chkC (s n : Nat) : Bool := decide (totC (wrU n) 0 (-(2 ^ (s - 1))) (2 ^ s) (2 ^ n) = ((2 ^ (s - 1) * (2 * (2 ^ n - 1) - 2 ^ (s - 1) + 1) / 2 : Int).toNat, some (0, -(2 ^ (s - 1)))))
theorem all_B : ∀ s, 2 ≤ s → s ≤ 5 → ∀ n, 2 ≤ n → n ≤ 5 → s ≤ n → chkB s n = true
  | 2, _, _, 2, _, _, _ => by decide +kernel
  | 2, _, _, 3, _, _, _ => by decide +kernel
  | 2, _, _, 4, _, _, _ => by decide +kernel
  | 2, _, _, 5, _, _, _ => by decide +kernel
  | 3, _, _, 3, _, _, _ => by decide +kernel
  | 3, _, _, 4, _, _, _ => by decide +kernel
  | 3, _, _, 5, _, _, _ => by decide +kernel
  | 4, _, _, 4, _, _, _ => by decide +kernel
  | 4, _, _, 5, _, _, _ => by decide +kernel
  | 5, _, _, 5, _, _, _ => by decide +kernel
  | 0, h, _, _, _, _, _ => absurd h (by decide)
  | 1, h, _, _, _, _, _ => absurd h (by decide)
  | s + 6, _, h, _, _, _, _ => absurd h (by omega)
  | _, _, _, 0, h, _, _ => absurd h (by decide)
  | _, _, _, 1, h, _, _ => absurd h (by decide)
  | _, _, _, n + 6, _, h, _ => absurd h (by omega)
  | 3, _, _, 2, _, _, h => absurd h (by decide)
  | 4, _, _, 2, _, _, h => absurd h (by decide)
  | 4, _, _, 3, _, _, h => absurd h (by decide)
  | 5, _, _, 2, _, _, h => absurd h (by decide)
  | 5, _, _, 3, _, _, h => absurd h (by decide)
  | 5, _, _, 4, _, _, h => absurd h (by decide)
theorem all_C : ∀ s, 2 ≤ s → s ≤ 5 → ∀ n, 2 ≤ n → n ≤ 5 → s ≤ n → chkC s n = true
  | 2, _, _, 2, _, _, _ => by decide +kernel
  | 2, _, _, 3, _, _, _ => by decide +kernel
  | 2, _, _, 4, _, _, _ => by decide +kernel
  | 2, _, _, 5, _, _, _ => by decide +kernel
  | 3, _, _, 3, _, _, _ => by decide +kernel
  | 3, _, _, 4, _, _, _ => by decide +kernel
  | 3, _, _, 5, _, _, _ => by decide +kernel
  | 4, _, _, 4, _, _, _ => by decide +kernel
  | 4, _, _, 5, _, _, _ => by decide +kernel
  | 5, _, _, 5, _, _, _ => by decide +kernel
  | 0, h, _, _, _, _, _ => absurd h (by decide)
  | 1, h, _, _, _, _, _ => absurd h (by decide)
  | s + 6, _, h, _, _, _, _ => absurd h (by omega)
  | _, _, _, 0, h, _, _ => absurd h (by decide)
  | _, _, _, 1, h, _, _ => absurd h (by decide)
  | _, _, _, n + 6, _, h, _ => absurd h (by omega)
  | 3, _, _, 2, _, _, h => absurd h (by decide)
  | 4, _, _, 2, _, _, h => absurd h (by decide)
  | 4, _, _, 3, _, _, h => absurd h (by decide)
  | 5, _, _, 2, _, _, h => absurd h (by decide)
  | 5, _, _, 3, _, _, h => absurd h (by decide)
  | 5, _, _, 4, _, _, h => absurd h (by decide)
def pairD (p : Int × Int) : PyData := .tuple [.int p.1, .int p.2]
def optP : Option (Int × Int) → PyData
  | none => .none
  | some p => pairD p
theorem Md.conv_id (m : Md) (h : m.Ok) (c : Kd) {i : Int} (h1 : m.low c ≤ i) (h2 : i ≤ m.high c) : m.conv c i = i := by
  have e := m.span h c
  unfold Md.conv
  rw [Int.emod_eq_of_lt (by omega) (by omega)]
  omega
theorem Md.conv_un (m : Md) (h : m.Ok) {c : Kd} (u : m.un c = true) (i : Int) : m.conv c i = cnU (m.b c) i := by
  have e := m.span h c
  unfold Md.conv cnU
  rw [e, m.low_un u, Int.sub_zero, Int.add_zero]
/-- all pairs of a row of each range, tried -/
def Md.tried (m : Md) (k l : Kd) : List (Int × Int) := totW (m.wr (m.com k l)) (m.low k) (m.low l) (2 ^ m.b l) (2 ^ m.b k)
theorem nat_pow_cast (n : Nat) : (((2 : Nat) ^ n : Nat) : Int) = 2 ^ n := by
  rw [Int.natCast_pow]
  rfl
theorem Md.tried_ok (m : Md) (h : m.Ok) (h5 : m.w4 ≤ 5) (k l : Kd) : ((m.tried k l).length : Int) = m.cw k l ∧ optP (m.tried k l).head? = m.fw k l := by
  have hb : ∀ z, 2 ≤ m.b z ∧ m.b z ≤ 5 := fun z => ⟨(h.b z).1, by
    have e : m.b z ≤ m.w4 := by
      obtain ⟨h0, h1, h2, h3, h4, _⟩ := h
      cases z <;> simp only [Md.b, Md.w, Kd.rk] <;> omega
    omega⟩
  have hw : m.un (m.com k l) = true → m.tried k l = totW (wrU (m.b (m.com k l))) (m.low k) (m.low l) (2 ^ m.b l) (2 ^ m.b k) := fun u => by
    unfold Md.tried
    refine tot_ext fun i j _ _ => ?_
    unfold Md.wr wrU
    rw [wrB_eq, m.conv_un h u, m.conv_un h u]
  rcases m.sgn_cases h k l with ⟨hs, hA⟩ | ⟨hs, hc, uk, ul, bl, bk⟩ | ⟨hs, nkl, hc, uk, ul, bk, bl⟩
  · have e : m.tried k l = [] := by
      refine tot_no fun i j hi hj => ?_
      have ok := m.com_ok h k l
      have ok2 := m.com_ok h l k
      rw [m.com_comm l k] at ok2
      have hk := m.span h k
      have hl := m.span h l
      have ck := nat_pow_cast (m.b k)
      have cl := nat_pow_cast (m.b l)
      have hlo : m.low (m.com k l) ≤ m.low k ∧ m.low (m.com k l) ≤ m.low l := by
        rcases hA with hu | ⟨u1, u2⟩
        · have := (m.low_sg hu).2
          exact ⟨ok.2.2 this, ok2.2.2 this⟩
        · rw [m.low_un u1, m.low_un u2]
          exact ⟨(m.low_le _).1, (m.low_le _).1⟩
      unfold Md.wr
      rw [wrB_eq, m.conv_id h _ (by omega) (by omega), m.conv_id h _ (by omega) (by omega)]
      cases decide (m.low k + ↑i < m.low l + ↑j) <;> rfl
    rw [e]
    unfold Md.cw Md.fw
    rw [hs]
    exact ⟨rfl, rfl⟩
  · have e := hw hc
    have c := tot_cnt (wrU (m.b (m.com k l))) (m.low k) (m.low l) (2 ^ m.b l) (2 ^ m.b k)
    rw [← e] at c
    have q := all_B (m.b k) (hb k).1 (hb k).2 (m.b (m.com k l)) (hb _).1 (hb _).2 bk
    rw [(m.low_sg uk).1, m.low_un ul, bl, of_decide_eq_true q] at c
    obtain ⟨c1, c2⟩ := Prod.mk.inj c
    have a0 := p2 (m.b k - 1)
    have le : (2 : Int) ^ (m.b k - 1) ≤ 2 ^ m.b (m.com k l) := by
      have : (2 : Nat) ^ (m.b k - 1) ≤ 2 ^ m.b (m.com k l) := Nat.pow_le_pow_right (by decide) (by omega)
      exact_mod_cast this
    have nn : 0 ≤ (2 : Int) ^ (m.b k - 1) * (2 * (2 ^ m.b (m.com k l) - 1) - 2 ^ (m.b k - 1) + 1) := Int.mul_nonneg (by omega) (by omega)
    rw [c2]
    unfold Md.cw Md.fw
    rw [hs]
    simp only [if_pos]
    refine ⟨?_, by rw [(m.low_sg uk).1]; rfl⟩
    rw [c1, Int.toNat_of_nonneg (by omega)]
  · have e := hw hc
    have c := tot_cnt (wrU (m.b (m.com k l))) (m.low k) (m.low l) (2 ^ m.b l) (2 ^ m.b k)
    rw [← e] at c
    have q := all_C (m.b l) (hb l).1 (hb l).2 (m.b (m.com k l)) (hb _).1 (hb _).2 bl
    rw [(m.low_sg ul).1, m.low_un uk, bk, of_decide_eq_true q] at c
    obtain ⟨c1, c2⟩ := Prod.mk.inj c
    have a0 := p2 (m.b l - 1)
    have le : (2 : Int) ^ (m.b l - 1) ≤ 2 ^ m.b (m.com k l) := by
      have : (2 : Nat) ^ (m.b l - 1) ≤ 2 ^ m.b (m.com k l) := Nat.pow_le_pow_right (by decide) (by omega)
      exact_mod_cast this
    have nn : 0 ≤ (2 : Int) ^ (m.b l - 1) * (2 * (2 ^ m.b (m.com k l) - 1) - 2 ^ (m.b l - 1) + 1) := Int.mul_nonneg (by omega) (by omega)
    rw [c2]
    unfold Md.cw Md.fw
    rw [hs]
    simp only [if_neg (Ne.symm nkl)]
    refine ⟨?_, by rw [(m.low_sg ul).1]; rfl⟩
    rw [c1, Int.toNat_of_nonneg (by omega)]
theorem pairs_lay : ∀ w : List (Int × Int), PyData.canLayAll0 (w.map pairD) = true
  | [] => by simp [PyData.canLayAll0]
  | p :: w => by
    have ih := pairs_lay w
    simp only [List.map_cons, PyData.canLayAll0, pairD, PyData.canLay0, Bool.and_true, Bool.true_and]
    exact ih
theorem pairs_depth : ∀ w : List (Int × Int), PyData.depthAll (w.map pairD) ≤ 3
  | [] => by simp [PyData.depthAll]
  | p :: w => by
    have ih := pairs_depth w
    simp only [List.map_cons, PyData.depthAll, pairD, PyData.depth]
    omega
theorem pairs_shaped (w : List (Int × Int)) : SeqAt.shaped (.list (w.map pairD)) = true := by
  have h1 := pairs_depth w
  show (PyData.canLay0 (.list (w.map pairD)) && decide (PyData.depth (.list (w.map pairD)) ≤ 64)) = true
  rw [Bool.and_eq_true]
  refine ⟨by simp only [PyData.canLay0]; exact pairs_lay w, decide_eq_true ?_⟩
  simp only [PyData.depth]
  omega
theorem pairs_nil (w : List (Int × Int)) : PyData.eqv (.list (w.map pairD)) (.list []) = decide (w = []) := by cases w <;> simp [PyData.eqv, PyData.eqvAll]
section
variable {K : PySem.W.Frag} {σ : L2.St} {H : Hp} {ta tb te : TE} {tu tz : TS} {D : Ends}
theorem dps_at : ∀ {ds : List PyData} {vs : List V}, vs.length = ds.length → (∀ (j : Nat) (d : PyData), ds[j]? = some d → ∃ v, vs[j]? = some v ∧ Dp K H v d) → DpAll K H vs ds
  | [], [], _, _ => .nil
  | d :: ds, v :: vs, hl, h => by
    obtain ⟨v2, h1, h2⟩ := h 0 d rfl
    cases h1
    exact .cons h2 (dps_at (Nat.succ.inj hl) fun j e hj => h (j + 1) e hj)
  | [], _ :: _, hl, _ => nomatch hl
  | _ :: _, [], hl, _ => nomatch hl
/-- a list of data is not the empty one -/
theorem ev_neDE {ds : List PyData} {b : Bool} (ha : EvP K ta σ H (.list ds)) (sd : SeqAt.shaped (.list ds) = true) (hq : PyData.eqv (.list ds) (.list []) = b) : Ev (tOp (rNeD K) ta (tLst tNil)) σ H (.bl (!b)) := fun H1 e1 Q q =>
  ha H1 e1 _ fun x H2 e2 hx => (el_lst (σ := σ) (H := H2) ea_nil (by decide)) H2 (Ex.refl H2) _ fun p H3 n3 e3 h3 => ⟨.list ds, .list [], dp_ex e3 _ x hx, .lst (sq_of h3) .nil, sd, by decide +kernel, by rw [hq]; exact q H3 (e2.trans e3)⟩
theorem s_forR2g {ta : TA} {j : Nat} {lo n : Int} (h : EvA ta σ H [.int lo, .int n]) (hn : -100000 ≤ lo ∧ lo ≤ 100000 ∧ -100000 ≤ n ∧ n ≤ 100000) (Pv : Nat → L2.St → Hp → Prop) (h0 : ∀ H1, Ex H H1 → Pv 0 σ H1)
    (hs : ∀ (i : Nat) σ' H', lo + (i : Int) < n → Pv i σ' H' → tu { D with nx := Pv (i + 1), ct := Pv (i + 1), bk := D.nx } (σ'.set j (some (.int (lo + (i : Int))))) H') (hd : ∀ σ' H', Pv (n - lo).toNat σ' H' → D.nx σ' H') : tFor (iRng2 ta) (gName j) tu D σ H :=
  h H (Ex.refl H) _ fun H1 e1 => ⟨lo, n, rfl, by omega, for_range (D := D) Pv (h0 H1 e1) (fun i σ' H' hi p => hs i σ' H' (by omega) p) hd⟩
theorem q_forR2g {ta : TA} {j : Nat} {lo n : Int} (h : EvA ta σ H [.int lo, .int n]) (hn : -100000 ≤ lo ∧ lo ≤ 100000 ∧ -100000 ≤ n ∧ n ≤ 100000) (Pv : Nat → L2.St → Hp → Prop) (h0 : ∀ H1, Ex H H1 → Pv 0 σ H1)
    (hs : ∀ (i : Nat) σ' H', lo + (i : Int) < n → Pv i σ' H' → tu { D with nx := Pv (i + 1), ct := Pv (i + 1), bk := tz D } (σ'.set j (some (.int (lo + (i : Int))))) H') (hd : ∀ σ' H', Pv (n - lo).toNat σ' H' → tz D σ' H') : tSeq (tFor (iRng2 ta) (gName j) tu) tz D σ H :=
  s_forR2g (D := { D with nx := tz D }) h hn Pv h0 hs hd
end
end Cf

namespace Cf
open PySem PySem.Spec PyProof.Rows L2 Evl
def topS (i : Nat) : Stmt := PySem.Challenge.pw_castforms_k44_mixed_comparisons_by_tryin.main.body.getD i (.Pass ⟨0, 0, 0, 0⟩)
abbrev s_check_widths : Stmt := topS 13
abbrev s_check_model : Stmt := topS 14
abbrev s_check_kind : Stmt := topS 15
abbrev s_bits_of : Stmt := topS 16
abbrev s_is_unsigned : Stmt := topS 17
abbrev s_limits_of : Stmt := topS 18
abbrev s_promoted_kind : Stmt := topS 19
abbrev s_common_kind : Stmt := topS 20
abbrev s__common_of_mixed : Stmt := topS 21
abbrev s__checked_signed_one : Stmt := topS 23
abbrev s_count_wrong : Stmt := topS 24
abbrev s_first_wrong : Stmt := topS 25
abbrev s__law_pool : Stmt := topS 27
abbrev s__law_draw : Stmt := topS 28
abbrev s__law_kinds : Stmt := topS 29
abbrev s__law_model : Stmt := topS 30
abbrev s__law_bits : Stmt := topS 31
abbrev s__law_is_unsigned : Stmt := topS 32
abbrev s__law_ends : Stmt := topS 33
abbrev s__law_has : Stmt := topS 34
abbrev s__law_into : Stmt := topS 35
abbrev s__law_common : Stmt := topS 36
abbrev s__law_tried : Stmt := topS 37
abbrev s__law_right : Stmt := topS 38
abbrev s_law : Stmt := topS 39
section
variable {P : Program} {w : World} {K : PySem.W.Frag} {mg : Str → Option Value} {base : Heap} {f : Addr} {fd : FuncData}
theorem sc_bits_of : FnScope ["model", "kind"] ["model", "kind"] (defScope s_bits_of) := ⟨rfl, rfl, rfl, by decide +kernel, rfl, by decide +kernel, by decide +kernel⟩
theorem ok_bits_of (D : Df K mg "bits_of" s_bits_of ["model", "kind"] f fd) (cR : CR5 K w mg) :
    FnG P w K mg base CX0 1 f fd ["model", "kind"] (PV (preMK K fun m k => .int (m.b k))) := by
  refine df_ok D sc_bits_of (pre_len1 fun vs H v h => by obtain ⟨p, m, k, rfl, _⟩ := h; rfl) (fun cdv A outer s H vs Q E hG hr h => ?_)
  obtain ⟨v, ⟨p, m, k, rfl, hm, ho, rfl⟩, hQ⟩ := h
  obtain ⟨aR, gR, tR⟩ := cR
  obtain ⟨q, h1, h2⟩ := hm
  refine ⟨_, pss_one (ps_ret (pe_ix ix_tup (pe_ix ix_tup (pv 0) pe_int (fun _ _ => rfl)) (pe_ix ix_kdict (pe_glob (v := .ref aR) rfl gR rfl) (pv 1) (fun _ _ => rfl)) (fun _ _ => rfl))), ?_⟩
  refine s_ret (ev_op (ev_op (ev_var rfl) ev_c (rv_ixT h1 (atI_nat (j := 0) rfl))) (ev_op ev_c (ev_var rfl) (z := .int k.rk) ?_) (rv_ixT h2 (atI_nat (j := k.rk) (Md.at_ k.rk_lt)))) hQ
  exact fun H1 _ Q1 q1 => ⟨aR, k.s, _, rfl, rfl, tR k, q1 H1 (Ex.refl H1)⟩

theorem sc_is_unsigned : FnScope ["model", "kind"] ["model", "kind"] (defScope s_is_unsigned) := ⟨rfl, rfl, rfl, by decide +kernel, rfl, by decide +kernel, by decide +kernel⟩
theorem ok_is_unsigned (D : Df K mg "is_unsigned" s_is_unsigned ["model", "kind"] f fd) (cU : CT K mg "UNSIGNED" vUNSIGNED) :
    FnG P w K mg base CX0 1 f fd ["model", "kind"] (PV (preMK K fun m k => .bl (m.un k))) := by
  refine df_ok D sc_is_unsigned (pre_len1 fun vs H v h => by obtain ⟨p, m, k, rfl, _⟩ := h; rfl) (fun cdv A outer s H vs Q E hG hr h => ?_)
  obtain ⟨v, ⟨p, m, k, rfl, hm, ho, rfl⟩, hQ⟩ := h
  obtain ⟨q, h1, h2⟩ := hm
  refine ⟨_, pss_cons (ps_if (pt_cmpR op_eq (pv 1) pe_str (nomark _)) (pss_one (ps_ret (pe_cmpR op_eq (pe_ix ix_tup (pv 0) pe_int (fun _ _ => rfl)) pe_str (nomark _)))) pss_nil)
    (pss_one (ps_ret (pe_cmpR op_in_seq (pv 1) (pe_ct rfl cU) (by rfl)))), ?_⟩
  refine q_when (b := decide (k = .ch)) (et_is (et_test (ev_op (ev_var rfl) ev_c (rv_eq rfl))) ?_) (fun hb H1 e1 => ?_) (fun hb H1 e1 => ?_)
  · cases k <;> decide +kernel
  · have hk : k = .ch := of_decide_eq_true hb
    subst hk
    refine s_ret (ev_is (ev_op (ev_op (ev_var rfl) ev_c (rv_ixT (ex_t e1 h1) (atI_nat (j := 1) rfl))) ev_c (rv_eq rfl)) ?_) fun H2 e2 => hQ H2 (e1.trans e2)
    show V.bl (decide (V.str (plS m.u) = V.str "u")) = V.bl m.u
    cases m.u <;> decide +kernel
  · refine s_ret (ev_ct (ev_var rfl) (z := .bl (m.un k)) fun a H2 e2 t => ?_) fun H2 e2 => hQ H2 (e1.trans e2)
    have hz : V.bl (inV k.v vUNSIGNED) = V.bl (m.un k) := by
      cases k <;> first | rfl | (exact absurd hb (by decide))
    rw [← hz]
    exact rv_isT t rfl rfl

theorem sc_limits_of : FnScope ["model", "kind", "bits"] ["model", "kind"] (defScope s_limits_of) := ⟨rfl, rfl, rfl, by decide +kernel, rfl, by decide +kernel, by decide +kernel⟩
theorem ok_limits_of (D : Df K mg "limits_of" s_limits_of ["model", "kind"] f fd) (cb : Cl P w K mg base 1 "bits_of" ["model", "kind"] (PV (preMK K fun m k => .int (m.b k))))
    (cu : Cl P w K mg base 1 "is_unsigned" ["model", "kind"] (PV (preMK K fun m k => .bl (m.un k)))) :
    FnG P w K mg base CX0 2 f fd ["model", "kind"] (PU (preMU K fun m k => [.int (m.low k), .int (m.high k)])) := by
  refine df_ok D sc_limits_of (pre_lenU fun vs H v h => by obtain ⟨p, m, k, rfl, _⟩ := h; rfl) (fun cdv A outer s H vs Q E hG hr h => ?_)
  obtain ⟨v, ⟨p, m, k, rfl, hm, ho, rfl⟩, hQ⟩ := h
  obtain ⟨b0, b1⟩ := ho.b k
  refine ⟨_, pss_cons (ps_set (i := 2) sc_limits_of.nd rfl (.inl rfl) (pe_cl cb hG hr rfl (pa_cons (pv 0) (pa_cons (pv 1) pa_nil))))
    (pss_cons (ps_if (pt_val (pe_cl cu hG hr rfl (pa_cons (pv 0) (pa_cons (pv 1) pa_nil))))
        (pss_one (ps_ret (pe_tup (pa_cons pe_int (pa_cons (pe_op op_sub (pe_op op_shl pe_int (pv 2)) pe_int) pa_nil))))) pss_nil)
    (pss_one (ps_ret (pe_tup (pa_cons (pe_un un_neg (pe_op op_shl pe_int (pe_op op_sub (pv 2) pe_int))) (pa_cons (pe_op op_sub (pe_op op_shl pe_int (pe_op op_sub (pv 2) pe_int)) pe_int) pa_nil)))))), ?_⟩
  refine q_asg (ev_call (ea_cons (ev_var rfl) (ea_cons (ev_var rfl) ea_nil)) (spMK hm ho)) fun H1 e1 => ?_
  have hm1 := hm.ex e1
  have e2b : ∀ {H}, Ev (tOp (rI0 fun i j => .int (i - j)) (tVar 2) (tC (.int 1))) [some (.ref p), some k.v, some (.int (m.b k))] H (.int ((m.b k - 1 : Nat) : Int)) := fun {H} =>
    ev_is (ev_op (ev_var rfl) ev_c rv_I0) (by congr 1; omega)
  refine q_when (et_B (ev_call (ea_cons (ev_var rfl) (ea_cons (ev_var rfl) ea_nil)) (spMK hm1 ho))) (fun hb H2 e2 => ?_) (fun hb H2 e2 => ?_)
  · refine s_retU (xs := [.int (m.low k), .int (m.high k)]) ?_ fun t H3 n3 e3 h3 => hQ t H3 (fresh_back (e1.trans e2) n3) ((e1.trans e2).trans e3) h3
    refine eu_tup (ea_cons (ev_is ev_c ?_) (ea_cons (ev_is (ev_op (shl1 b1 ev_c (ev_var rfl)) ev_c rv_I0) ?_) ea_nil)) (by show 2 ≤ 100000; decide)
    · unfold Md.low
      rw [if_pos hb]
    · unfold Md.high
      rw [if_pos hb]
  · refine s_retU (xs := [.int (m.low k), .int (m.high k)]) ?_ fun t H3 n3 e3 h3 => hQ t H3 (fresh_back (e1.trans e2) n3) ((e1.trans e2).trans e3) h3
    have hs := shl1 (b := m.b k - 1) (σ := [some (.ref p), some k.v, some (.int (m.b k))]) (H := H2) (by omega) (ta := tC (.int 1)) ev_c e2b
    refine eu_tup (ea_cons (ev_is (ev_un hs ru_neg) ?_) (ea_cons (ev_is (ev_op hs ev_c rv_I0) ?_) ea_nil)) (by show 2 ≤ 100000; decide)
    · unfold Md.low
      rw [if_neg (by rw [hb]; decide)]
    · unfold Md.high
      rw [if_neg (by rw [hb]; decide)]

theorem sc_check_widths : FnScope ["widths", "least", "at", "bits"] ["widths"] (defScope s_check_widths) := ⟨rfl, rfl, rfl, by decide +kernel, rfl, by decide +kernel, by decide +kernel⟩
theorem ok_check_widths (D : Df K mg "check_widths" s_check_widths ["widths"] f fd) (cS : CT K mg "SIGNED" vSIGNED) (cl : CI mg "LEAST_WIDTH" 2) (cg : CI mg "GREATEST_WIDTH" 128) (cn : mg "len" = none) (ce : mg "enumerate" = none) :
    FnG P w K mg base CX0 1 f fd ["widths"] (PV (preW K)) := by
  refine df_ok D sc_check_widths (pre_len1 fun vs H v h => by obtain ⟨p, m, rfl, _⟩ := h; rfl) (fun cdv A outer s H vs Q E hG hr h => ?_)
  obtain ⟨v, ⟨p, m, rfl, hm, ho, rfl⟩, hQ⟩ := h
  refine ⟨_, pss_cons (ps_if (pt_cmpR op_ne (pe_callB call_len_seq (by rfl) cn PySem.boot_len (pa_cons (pv 0) pa_nil)) (pe_callB call_len_seq (by rfl) cn PySem.boot_len (pa_cons (pe_ct rfl cS) pa_nil)) (nomark _)) (pss_one ps_never) pss_nil)
    (pss_cons (ps_set (i := 1) sc_check_widths.nd rfl (.inl rfl) (pe_ci rfl cl))
    (pss_one (ps_for PassesOwn.never rfl (pi_enumT rfl ce (pa_cons (pv 0) pa_nil))
      (pg_tup rfl (pgs_cons (pg_name (i := 2) sc_check_widths.nd rfl (.inl rfl)) (pgs_cons (pg_name (i := 3) sc_check_widths.nd rfl (.inl rfl)) pgs_nil)))
      (pss_cons (ps_if (PW.pt (pw_or (pt_cmpR op_lt (pv 3) (pv 1) (nomark _)) (pw_or1 (pt_cmpR op_gt (pv 3) (pe_ci rfl cg) (nomark _))))) (pss_one ps_never) pss_nil)
      (pss_one (ps_set (i := 1) sc_check_widths.nd rfl (.inl rfl) (pv 3))))))), ?_⟩
  -- five widths
  refine ⟨_, rfl, p, m.ws, rfl, .inr hm, fun aS hS => ⟨aS, vSIGNED, rfl, .inr hS, rfl, _, rfl, ?_⟩⟩
  refine iteF ?_
  show tSeq _ _ _ _ _
  refine q_asg ev_c fun H1 e1 => ?_
  have hm1 := ex_t e1 hm
  refine ⟨_, rfl, p, m.ws, rfl, hm1, for_enumT (xs := m.ws) (fun i σ H3 => Ex H1 H3 ∧ ∃ l y2 y3, σ = [some (.ref p), some (.int l), y2, y3] ∧ ∀ x, m.ns[i]? = some x → l ≤ x ∧ x ≤ 128) ?_ ?_ ?_ ?_ ?_⟩
  · refine ⟨Ex.refl H1, 2, none, none, rfl, fun x hx => ?_⟩
    have : m.ns[0]? = some (m.w0 : Int) := rfl
    rw [this] at hx
    cases hx
    obtain ⟨h0, h1, h2, h3, h4, h5⟩ := ho
    omega
  · exact fun i σ H3 _ hp => ex_t hp.1 hm1
  · exact fun i σ H3 T x hp nT => ⟨hp.1.trans (Ex.new nT), hp.2⟩
  · intro i x T σ H3 hx hp hT
    obtain ⟨e3, l, y2, y3, rfl, hl⟩ := hp
    obtain ⟨z, hz, rfl⟩ : ∃ z, m.ns[i]? = some z ∧ x = .int z := by
      rw [List.getElem?_map] at hx
      obtain ⟨z, a, b⟩ := Option.map_eq_some_iff.mp hx
      exact ⟨z, a, b.symm⟩
    obtain ⟨c1, c2⟩ := hl z hz
    refine ⟨T, _, rfl, st_of hT, rfl, _, _, rfl, _, _, rfl, rfl, ?_⟩
    refine q_when (b := false) (et_is (et_or (et_test (ev_op (ev_var rfl) (ev_var rfl) rv_I0)) fun _ => et_test (ev_op (ev_var rfl) ev_c rv_I0)) ?_) (fun hb => nomatch hb) (fun _ H4 e4 => ?_)
    · rw [decide_eq_false (by omega), decide_eq_false (by omega)]
      rfl
    · refine s_asg (ev_var rfl) fun H5 e5 => ⟨(e3.trans e4).trans e5, z, some (.int i), some (.int z), rfl, fun y hy => ?_⟩
      obtain ⟨h0, h1, h2, h3, h4, h5⟩ := ho
      match i, hz, hy with
      | 0, hz, hy =>
        have a1 : (m.w0 : Int) = z := Option.some.inj hz
        have a2 : (m.w1 : Int) = y := Option.some.inj hy
        omega
      | 1, hz, hy =>
        have a1 : (m.w1 : Int) = z := Option.some.inj hz
        have a2 : (m.w2 : Int) = y := Option.some.inj hy
        omega
      | 2, hz, hy =>
        have a1 : (m.w2 : Int) = z := Option.some.inj hz
        have a2 : (m.w3 : Int) = y := Option.some.inj hy
        omega
      | 3, hz, hy =>
        have a1 : (m.w3 : Int) = z := Option.some.inj hz
        have a2 : (m.w4 : Int) = y := Option.some.inj hy
        omega
      | n + 4, hz, hy =>
        have a2 : (none : Option Int) = some y := hy
        cases a2
  · exact fun σ H3 hp => hQ H3 (e1.trans hp.1)



theorem sc_check_model : FnScope ["model", "widths", "plain"] ["model"] (defScope s_check_model) := ⟨rfl, rfl, rfl, by decide +kernel, rfl, by decide +kernel, by decide +kernel⟩
theorem ok_check_model (D : Df K mg "check_model" s_check_model ["model"] f fd) (cw : Cl P w K mg base 1 "check_widths" ["widths"] (PV (preW K))) (cP : CT K mg "PLAIN_SIGNS" vPLAIN) :
    FnG P w K mg base CX0 2 f fd ["model"] (PV (preM K)) := by
  refine df_ok D sc_check_model (pre_len1 fun vs H v h => by obtain ⟨p, m, rfl, _⟩ := h; rfl) (fun cdv A outer s H vs Q E hG hr h => ?_)
  obtain ⟨v, ⟨p, m, rfl, hm, ho, rfl⟩, hQ⟩ := h
  obtain ⟨q, h1, h2⟩ := hm
  refine ⟨_, pss_cons (ps_asg (pv 0) (pg_tup rfl (pgs_cons (pg_name (i := 1) sc_check_model.nd rfl (.inl rfl)) (pgs_cons (pg_name (i := 2) sc_check_model.nd rfl (.inl rfl)) pgs_nil))))
    (pss_cons (ps_expr (pe_cl cw hG hr rfl (pa_cons (pv 1) pa_nil)))
    (pss_one (ps_if (pt_cmpR op_notIn_seq (pv 2) (pe_ct rfl cP) (by rfl)) (pss_one ps_never) pss_nil))), ?_⟩
  refine ⟨_, rfl, p, _, rfl, h1, rfl, _, _, rfl, _, _, rfl, rfl, ?_⟩
  refine q_drop (ev_call (ea_cons (ev_var rfl) ea_nil) (spW h2 ho)) fun H1 e1 => ?_
  refine s_when (b := false) (et_test (ev_ct (ev_var rfl) (z := .bl false) fun a H2 e2 t => ?_)) (fun hb => nomatch hb) (fun _ H2 e2 => hQ H2 (e1.trans e2))
  have hz : V.bl (!inV (.str (plS m.u)) vPLAIN) = V.bl false := by cases m.u <;> rfl
  rw [← hz]
  exact rv_niT t rfl rfl

theorem sc_check_kind : FnScope ["kind"] ["kind"] (defScope s_check_kind) := ⟨rfl, rfl, rfl, by decide +kernel, rfl, by decide +kernel, by decide +kernel⟩
theorem ok_check_kind (D : Df K mg "check_kind" s_check_kind ["kind"] f fd) (cK : CT K mg "KINDS" vKINDS) : FnG P w K mg base CX0 1 f fd ["kind"] (PV preK) := by
  refine df_ok D sc_check_kind (pre_len1 fun vs H v h => by obtain ⟨k, rfl, _⟩ := h; rfl) (fun cdv A outer s H vs Q E hG hr h => ?_)
  obtain ⟨v, ⟨k, rfl, rfl⟩, hQ⟩ := h
  refine ⟨_, pss_one (ps_if (pt_cmpR op_notIn_seq (pv 0) (pe_ct rfl cK) (by rfl)) (pss_one ps_never) pss_nil), ?_⟩
  refine s_when (b := false) (et_test (ev_ct (ev_var rfl) (z := .bl false) fun a H2 e2 t => ?_)) (fun hb => nomatch hb) (fun _ H1 e1 => hQ H1 e1)
  have hz : V.bl (!inV k.v vKINDS) = V.bl false := by cases k <;> rfl
  rw [← hz]
  exact rv_niT t rfl rfl

theorem sc_promoted_kind : FnScope ["model", "kind"] ["model", "kind"] (defScope s_promoted_kind) := ⟨rfl, rfl, rfl, by decide +kernel, rfl, by decide +kernel, by decide +kernel⟩
theorem ok_promoted_kind (D : Df K mg "promoted_kind" s_promoted_kind ["model", "kind"] f fd) (cR : CR5 K w mg) (cI : CI mg "INT_RANK" 2) (cu : Cl P w K mg base 1 "is_unsigned" ["model", "kind"] (PV (preMK K fun m k => .bl (m.un k))))
    (cb : Cl P w K mg base 1 "bits_of" ["model", "kind"] (PV (preMK K fun m k => .int (m.b k)))) : FnG P w K mg base CX0 2 f fd ["model", "kind"] (PV (preMK K fun m k => (m.prom k).v)) := by
  refine df_ok D sc_promoted_kind (pre_len1 fun vs H v h => by obtain ⟨p, m, k, rfl, _⟩ := h; rfl) (fun cdv A outer s H vs Q E hG hr h => ?_)
  obtain ⟨v, ⟨p, m, k, rfl, hm, ho, rfl⟩, hQ⟩ := h
  obtain ⟨aR, gR, tR⟩ := cR
  refine ⟨_, pss_cons (ps_if (pt_cmpR op_ge (pe_ix ix_kdict (pe_glob (v := .ref aR) rfl gR rfl) (pv 1) (fun _ _ => rfl)) (pe_ci rfl cI) (nomark _)) (pss_one (ps_ret (pv 1))) pss_nil)
    (pss_cons (ps_if (PW.pt (pw_and (pt_val (pe_cl cu hG hr rfl (pa_cons (pv 0) (pa_cons (pv 1) pa_nil)))) (pw_and1 (pt_cmpR op_ge (pe_cl cb hG hr rfl (pa_cons (pv 0) (pa_cons (pv 1) pa_nil))) (pe_cl cb hG hr rfl (pa_cons (pv 0) (pa_cons pe_str pa_nil))) (nomark _)))))
        (pss_one (ps_ret pe_str)) pss_nil)
    (pss_one (ps_ret pe_str))), ?_⟩
  refine q_when (et_test (ev_op (ev_rk tR (ev_var rfl)) ev_c rv_I0)) (fun hb H1 e1 => ?_) (fun hb H1 e1 => ?_)
  · have h2 : (2 : Int) ≤ (k.rk : Nat) := of_decide_eq_true hb
    have e : m.prom k = k := by
      unfold Md.prom
      rw [if_pos (by omega)]
    dsimp only at hQ
    rw [e] at hQ
    exact s_ret (ev_var rfl) fun H2 e2 => hQ H2 (e1.trans e2)
  · have h2 : ¬ (2 : Int) ≤ (k.rk : Nat) := of_decide_eq_false hb
    have e : m.prom k = if m.un k = true ∧ m.b .it ≤ m.b k then .ui else .it := by
      unfold Md.prom
      rw [if_neg (by omega)]
    have hm1 := hm.ex e1
    refine q_when (b := decide (m.un k = true ∧ m.b .it ≤ m.b k)) (et_is (et_and (et_B (ev_mk hm1 ho rfl rfl)) fun _ => et_test (ev_op (ev_mk hm1 ho rfl rfl) (ev_call (ea_cons (ev_var rfl) (ea_cons ev_c ea_nil)) (spMK (k := .it) hm1 ho)) rv_I0)) ?_) (fun hb2 H2 e2 => ?_) (fun hb2 H2 e2 => ?_)
    · cases m.un k
      · simp
      · simp
    · dsimp only at hQ
      rw [e, if_pos (of_decide_eq_true hb2)] at hQ
      exact s_ret ev_c fun H3 e3 => hQ H3 ((e1.trans e2).trans e3)
    · dsimp only at hQ
      rw [e, if_neg (of_decide_eq_false hb2)] at hQ
      exact s_ret ev_c fun H3 e3 => hQ H3 ((e1.trans e2).trans e3)

theorem sc__common_of_mixed : FnScope ["model", "unsigned", "signed"] ["model", "unsigned", "signed"] (defScope s__common_of_mixed) := ⟨rfl, rfl, rfl, by decide +kernel, rfl, by decide +kernel, by decide +kernel⟩
theorem ok__common_of_mixed (D : Df K mg "_common_of_mixed" s__common_of_mixed ["model", "unsigned", "signed"] f fd) (cR : CR5 K w mg) (cU : CT K mg "UNSIGNED" vUNSIGNED)
    (cb : Cl P w K mg base 1 "bits_of" ["model", "kind"] (PV (preMK K fun m k => .int (m.b k)))) : FnG P w K mg base CX0 2 f fd ["model", "unsigned", "signed"] (PV (preMKK K fun m a b => (m.mix a b).v)) := by
  refine df_ok D sc__common_of_mixed (pre_len1 fun vs H v h => by obtain ⟨p, m, k, l, rfl, _⟩ := h; rfl) (fun cdv A outer s H vs Q E hG hr h => ?_)
  obtain ⟨v, ⟨p, m, a, b, rfl, hm, ho, rfl⟩, hQ⟩ := h
  obtain ⟨aR, gR, tR⟩ := cR
  refine ⟨_, pss_cons (ps_if (pt_cmpR op_ge (pe_ix ix_kdict (pe_glob (v := .ref aR) rfl gR rfl) (pv 1) (fun _ _ => rfl)) (pe_ix ix_kdict (pe_glob (v := .ref aR) rfl gR rfl) (pv 2) (fun _ _ => rfl)) (nomark _)) (pss_one (ps_ret (pv 1))) pss_nil)
    (pss_cons (ps_if (pt_cmpR op_lt (pe_cl cb hG hr rfl (pa_cons (pv 0) (pa_cons (pv 1) pa_nil))) (pe_cl cb hG hr rfl (pa_cons (pv 0) (pa_cons (pv 2) pa_nil))) (nomark _)) (pss_one (ps_ret (pv 2))) pss_nil)
    (pss_one (ps_ret (pe_ix ix_tup (pe_ct rfl cU) (pe_ix ix_kdict (pe_glob (v := .ref aR) rfl gR rfl) (pv 2) (fun _ _ => rfl)) (fun _ _ => rfl))))), ?_⟩
  dsimp only at hQ
  refine q_when (et_test (ev_op (ev_rk tR (ev_var rfl)) (ev_rk tR (ev_var rfl)) rv_I0)) (fun hb H1 e1 => ?_) (fun hb H1 e1 => ?_)
  · have h2 : ((b.rk : Nat) : Int) ≤ (a.rk : Nat) := of_decide_eq_true hb
    have e : m.mix a b = a := by
      unfold Md.mix
      rw [if_pos (by omega)]
    rw [e] at hQ
    exact s_ret (ev_var rfl) fun H2 e2 => hQ H2 (e1.trans e2)
  · have h2 : ¬ ((b.rk : Nat) : Int) ≤ (a.rk : Nat) := of_decide_eq_false hb
    have e : m.mix a b = if m.b a < m.b b then b else uKd b.rk := by
      unfold Md.mix
      rw [if_neg (by omega)]
    have hm1 := hm.ex e1
    refine q_when (et_test (ev_op (ev_mk hm1 ho rfl rfl) (ev_mk hm1 ho rfl rfl) rv_I0)) (fun hb2 H2 e2 => ?_) (fun hb2 H2 e2 => ?_)
    · have h3 : ((m.b a : Nat) : Int) < (m.b b : Nat) := of_decide_eq_true hb2
      rw [e, if_pos (by omega)] at hQ
      exact s_ret (ev_var rfl) fun H3 e3 => hQ H3 ((e1.trans e2).trans e3)
    · have h3 : ¬ ((m.b a : Nat) : Int) < (m.b b : Nat) := of_decide_eq_false hb2
      rw [e, if_neg (by omega)] at hQ
      refine s_ret (v := (uKd b.rk).v) (fun H3 e3 Q1 q1 aU hU => ?_) fun H3 e3 => hQ H3 ((e1.trans e2).trans e3)
      exact (ev_rk tR (ev_var rfl)) H3 (Ex.refl H3) _ fun H4 e4 => ⟨aU, _, _, _, rfl, rfl, ex_t e4 hU, atI_nat (j := b.rk) (by cases b <;> rfl), q1 H4 e4⟩

theorem sc_common_kind : FnScope ["model", "first", "second", "one", "other"] ["model", "first", "second"] (defScope s_common_kind) := ⟨rfl, rfl, rfl, by decide +kernel, rfl, by decide +kernel, by decide +kernel⟩
theorem ok_common_kind (D : Df K mg "common_kind" s_common_kind ["model", "first", "second"] f fd) (cR : CR5 K w mg) (cp : Cl P w K mg base 2 "promoted_kind" ["model", "kind"] (PV (preMK K fun m k => (m.prom k).v)))
    (cu : Cl P w K mg base 1 "is_unsigned" ["model", "kind"] (PV (preMK K fun m k => .bl (m.un k)))) (cx : Cl P w K mg base 2 "_common_of_mixed" ["model", "unsigned", "signed"] (PV (preMKK K fun m a b => (m.mix a b).v))) :
    FnG P w K mg base CX0 3 f fd ["model", "first", "second"] (PV (preMKK K fun m k l => (m.com k l).v)) := by
  refine df_ok D sc_common_kind (pre_len1 fun vs H v h => by obtain ⟨p, m, k, l, rfl, _⟩ := h; rfl) (fun cdv A outer s H vs Q E hG hr h => ?_)
  obtain ⟨v, ⟨p, m, k, l, rfl, hm, ho, rfl⟩, hQ⟩ := h
  obtain ⟨aR, gR, tR⟩ := cR
  have nd := sc_common_kind.nd
  refine ⟨_, pss_cons (ps_par (i := 3) (j := 4) rfl nd rfl rfl (by decide) rfl rfl (pa_cons (pe_cl cp hG hr rfl (pa_cons (pv 0) (pa_cons (pv 1) pa_nil))) (pa_cons (pe_cl cp hG hr rfl (pa_cons (pv 0) (pa_cons (pv 2) pa_nil))) pa_nil)) (by rfl))
    (pss_cons (ps_if (pt_cmpR op_eq (pe_cl cu hG hr rfl (pa_cons (pv 0) (pa_cons (pv 3) pa_nil))) (pe_cl cu hG hr rfl (pa_cons (pv 0) (pa_cons (pv 4) pa_nil))) (nomark _))
        (pss_one (ps_ret (pe_ifExp (pt_cmpR op_ge (pe_ix ix_kdict (pe_glob (v := .ref aR) rfl gR rfl) (pv 3) (fun _ _ => rfl)) (pe_ix ix_kdict (pe_glob (v := .ref aR) rfl gR rfl) (pv 4) (fun _ _ => rfl)) (nomark _)) (pv 3) (pv 4)))) pss_nil)
    (pss_cons (ps_if (pt_val (pe_cl cu hG hr rfl (pa_cons (pv 0) (pa_cons (pv 3) pa_nil)))) (pss_one (ps_ret (pe_cl cx hG hr rfl (pa_cons (pv 0) (pa_cons (pv 3) (pa_cons (pv 4) pa_nil)))))) pss_nil)
    (pss_one (ps_ret (pe_cl cx hG hr rfl (pa_cons (pv 0) (pa_cons (pv 4) (pa_cons (pv 3) pa_nil)))))))), ?_⟩
  dsimp only at hQ
  refine q_par (ev_mk hm ho rfl rfl) (ev_mk hm ho rfl rfl) fun H1 e1 => ?_
  have hm1 := hm.ex e1
  unfold Md.com at hQ
  generalize m.prom k = a at hQ ⊢
  generalize m.prom l = b at hQ ⊢
  refine q_when (b := decide (m.un a = m.un b)) (et_is (et_test (ev_op (ev_mk hm1 ho rfl rfl) (ev_mk hm1 ho rfl rfl) (rv_eq rfl))) ?_) (fun hb H2 e2 => ?_) (fun hb H2 e2 => ?_)
  · cases m.un a <;> cases m.un b <;> decide
  · have e : m.com2 a b = if b.rk ≤ a.rk then a else b := by
      unfold Md.com2
      rw [if_pos (of_decide_eq_true hb)]
    rw [e] at hQ
    refine s_ret (ev_if (et_test (ev_op (ev_rk tR (ev_var rfl)) (ev_rk tR (ev_var rfl)) rv_I0)) (fun hc => ev_is (ev_var rfl) ?_) (fun hc => ev_is (ev_var rfl) ?_)) fun H3 e3 => hQ H3 ((e1.trans e2).trans e3)
    · have h3 : ((b.rk : Nat) : Int) ≤ (a.rk : Nat) := of_decide_eq_true hc
      rw [if_pos (by omega)]
    · have h3 : ¬ ((b.rk : Nat) : Int) ≤ (a.rk : Nat) := of_decide_eq_false hc
      rw [if_neg (by omega)]
  · have e : m.com2 a b = if m.un a = true then m.mix a b else m.mix b a := by
      unfold Md.com2
      rw [if_neg (of_decide_eq_false hb)]
    rw [e] at hQ
    have hm2 := hm1.ex e2
    refine q_when (et_B (ev_mk hm2 ho rfl rfl)) (fun hc H3 e3 => ?_) (fun hc H3 e3 => ?_)
    · rw [if_pos hc] at hQ
      exact s_ret (ev_call (ea_cons (ev_var rfl) (ea_cons (ev_var rfl) (ea_cons (ev_var rfl) ea_nil))) (spMKK (hm2.ex e3) ho)) fun H4 e4 => hQ H4 (((e1.trans e2).trans e3).trans e4)
    · rw [if_neg (by rw [hc]; decide)] at hQ
      exact s_ret (ev_call (ea_cons (ev_var rfl) (ea_cons (ev_var rfl) (ea_cons (ev_var rfl) ea_nil))) (spMKK (hm2.ex e3) ho)) fun H4 e4 => hQ H4 (((e1.trans e2).trans e3).trans e4)

theorem sc__checked_signed_one : FnScope ["model", "first", "second", "kind"] ["model", "first", "second"] (defScope s__checked_signed_one) := ⟨rfl, rfl, rfl, by decide +kernel, rfl, by decide +kernel, by decide +kernel⟩
theorem ok__checked_signed_one (D : Df K mg "_checked_signed_one" s__checked_signed_one ["model", "first", "second"] f fd) (cm : Cl P w K mg base 2 "check_model" ["model"] (PV (preM K))) (ck : Cl P w K mg base 1 "check_kind" ["kind"] (PV preK))
    (cu : Cl P w K mg base 1 "is_unsigned" ["model", "kind"] (PV (preMK K fun m k => .bl (m.un k)))) (cc : Cl P w K mg base 3 "common_kind" ["model", "first", "second"] (PV (preMKK K fun m k l => (m.com k l).v))) :
    FnG P w K mg base CX0 4 f fd ["model", "first", "second"] (PV (preMKK K fun m k l => sgV (m.sgn k l))) := by
  refine df_ok D sc__checked_signed_one (pre_len1 fun vs H v h => by obtain ⟨p, m, k, l, rfl, _⟩ := h; rfl) (fun cdv A outer s H vs Q E hG hr h => ?_)
  obtain ⟨v, ⟨p, m, k, l, rfl, hm, ho, rfl⟩, hQ⟩ := h
  have nd := sc__checked_signed_one.nd
  refine ⟨_, (pss_cons (ps_expr (pe_cl cm hG hr rfl (pa_cons (pv 0) pa_nil))) (pss_cons (ps_expr (pe_cl ck hG hr rfl (pa_cons (pv 1) pa_nil))) (pss_cons (ps_expr (pe_cl ck hG hr rfl (pa_cons (pv 2) pa_nil))) (pss_cons (ps_if (pt_not (pt_val (pe_cl cu hG hr rfl (pa_cons (pv 0) (pa_cons (pe_cl cc hG hr rfl (pa_cons (pv 0) (pa_cons (pv 1) (pa_cons (pv 2) pa_nil)))) pa_nil))))) (pss_one (ps_ret pe_non)) pss_nil) (pss_cons (ps_for PassesOwn.never rfl (pi_tup (pe_tup (pa_cons (pv 1) (pa_cons (pv 2) pa_nil)))) (pg_name (i := 3) nd rfl (.inl rfl)) (pss_one (ps_if (pt_not (pt_val (pe_cl cu hG hr rfl (pa_cons (pv 0) (pa_cons (pv 3) pa_nil))))) (pss_one (ps_ret (pv 3))) pss_nil))) (pss_one (ps_ret pe_non))))))), ?_⟩
  dsimp only at hQ
  refine q_drop (ev_call (ea_cons (ev_var rfl) ea_nil) (spM hm ho)) fun H1 e1 => ?_
  refine q_drop (ev_call (ea_cons (ev_var rfl) ea_nil) spK) fun H2 e2 => ?_
  refine q_drop (ev_call (ea_cons (ev_var rfl) ea_nil) spK) fun H3 e3 => ?_
  have e03 := (e1.trans e2).trans e3
  have hm3 := hm.ex e03
  refine q_when (b := !m.un (m.com k l)) (et_not (et_B (ev_call (ea_cons (ev_var rfl) (ea_cons (ev_call (ea_cons (ev_var rfl) (ea_cons (ev_var rfl) (ea_cons (ev_var rfl) ea_nil))) (spMKK hm3 ho)) ea_nil)) (spMK hm3 ho)))) (fun hb H4 e4 => ?_) (fun hb H4 e4 => ?_)
  · have e : m.sgn k l = none := by unfold Md.sgn; rw [if_neg]; intro z; rw [z] at hb; exact nomatch hb
    rw [e] at hQ
    exact s_ret ev_c fun H5 e5 => hQ H5 (e03.trans (e4.trans e5))
  have hu : m.un (m.com k l) = true := by cases z : m.un (m.com k l) with | true => rfl | false => rw [z] at hb; exact nomatch hb
  have e04 := e03.trans e4
  have hm4 := hm.ex e04
  refine q_forNT (xs := [k.v, l.v]) (eu_tup (ea_cons (ev_var rfl) (ea_cons (ev_var rfl) ea_nil)) (by show 2 ≤ 100000; decide)) (fun pt i σ G => ∃ y3, σ = [some (.ref p), some k.v, some l.v, y3] ∧ Ex H G ∧ G pt = some (.tup [k.v, l.v]) ∧ (1 ≤ i → m.un k = true) ∧ (2 ≤ i → m.un l = true)) ?_ ?_ ?_ ?_
  · exact fun pt G n e h => ⟨none, rfl, e04.trans e, h, fun z => absurd z (by decide), fun z => absurd z (by decide)⟩
  · exact fun pt i σ G _ hp => by
      obtain ⟨y3, _, _, h, _⟩ := hp
      exact st_of h
  · intro pt i x σ G hx hp
    obtain ⟨y3, rfl, eg, gp, u1, u2⟩ := hp
    dsimp only [List.set]
    match i, hx with
    | 0, hx =>
      cases hx
      refine s_when (b := !m.un k) (et_not (et_B (ev_mk (k := k) (hm.ex eg) ho rfl rfl))) (fun hb G2 e2 => ?_) (fun hb G2 e2 => ⟨some k.v, rfl, eg.trans e2, e2 _ _ gp, fun _ => by simpa using hb, fun z => absurd z (by decide)⟩)
      have e : m.sgn k l = some k := by unfold Md.sgn; rw [hu, if_pos rfl, if_pos (by simpa using hb)]
      rw [e] at hQ
      exact s_ret (ev_var rfl) fun G3 e3 => hQ G3 (eg.trans (e2.trans e3))
    | 1, hx =>
      cases hx
      refine s_when (b := !m.un l) (et_not (et_B (ev_mk (k := l) (hm.ex eg) ho rfl rfl))) (fun hb G2 e2 => ?_) (fun hb G2 e2 => ⟨some l.v, rfl, eg.trans e2, e2 _ _ gp, fun _ => u1 (by decide), fun _ => by simpa using hb⟩)
      have e : m.sgn k l = some l := by unfold Md.sgn; rw [hu, if_pos rfl, u1 (by decide), if_neg (by decide), if_pos (by simpa using hb)]
      rw [e] at hQ
      exact s_ret (ev_var rfl) fun G3 e3 => hQ G3 (eg.trans (e2.trans e3))
    | i + 2, hx => exact nomatch hx
  · intro pt σ G hp
    obtain ⟨y3, rfl, eg, gp, u1, u2⟩ := hp
    have e : m.sgn k l = none := by unfold Md.sgn; rw [hu, if_pos rfl, u1 (show 1 ≤ 2 by decide), if_neg (by decide), u2 (show 2 ≤ 2 by decide), if_neg (by decide)]
    rw [e] at hQ
    exact s_ret ev_c fun G3 e3 => hQ G3 (eg.trans e3)

theorem sc_count_wrong : FnScope ["model", "first", "second", "signed", "many", "greatest", "integers_below"] ["model", "first", "second"] (defScope s_count_wrong) := ⟨rfl, rfl, rfl, by decide +kernel, rfl, by decide +kernel, by decide +kernel⟩
theorem ok_count_wrong (D : Df K mg "count_wrong" s_count_wrong ["model", "first", "second"] f fd) (cs : Cl P w K mg base 4 "_checked_signed_one" ["model", "first", "second"] (PV (preMKK K fun m k l => sgV (m.sgn k l)))) (cl : Cl P w K mg base 2 "limits_of" ["model", "kind"] (PU (preMU K fun m k => [.int (m.low k), .int (m.high k)])))
    (cb : Cl P w K mg base 1 "bits_of" ["model", "kind"] (PV (preMK K fun m k => .int (m.b k)))) (cc : Cl P w K mg base 3 "common_kind" ["model", "first", "second"] (PV (preMKK K fun m k l => (m.com k l).v))) :
    FnG P w K mg base CX0 5 f fd ["model", "first", "second"] (PV (preMKK K fun m k l => .int (m.cw k l))) := by
  refine df_ok D sc_count_wrong (pre_len1 fun vs H v h => by obtain ⟨p, m, k, l, rfl, _⟩ := h; rfl) (fun cdv A outer s H vs Q E hG hr h => ?_)
  obtain ⟨v, ⟨p, m, k, l, rfl, hm, ho, rfl⟩, hQ⟩ := h
  have nd := sc_count_wrong.nd
  refine ⟨_, (pss_cons (ps_set (i := 3) nd rfl (.inl rfl) (pe_cl cs hG hr rfl (pa_cons (pv 0) (pa_cons (pv 1) (pa_cons (pv 2) pa_nil))))) (pss_cons (ps_if (pt_cmpR op_isN (pv 3) pe_non (nomark _)) (pss_one (ps_ret pe_int)) pss_nil) (pss_cons (ps_set (i := 4) nd rfl (.inl rfl) (pe_un un_neg (pe_ix ix_tup (pe_cl cl hG hr rfl (pa_cons (pv 0) (pa_cons (pv 3) pa_nil))) pe_int (fun _ _ => rfl)))) (pss_cons (ps_set (i := 5) nd rfl (.inl rfl) (pe_op op_sub (pe_op op_shl pe_int (pe_cl cb hG hr rfl (pa_cons (pv 0) (pa_cons (pe_cl cc hG hr rfl (pa_cons (pv 0) (pa_cons (pv 1) (pa_cons (pv 2) pa_nil)))) pa_nil)))) pe_int)) (pss_cons (ps_set (i := 6) nd rfl (.inl rfl) (pe_op op_fdiv (pe_op op_mulW (pv 4) (pe_op op_add (pe_op op_sub (pe_op op_mul pe_int (pv 5)) (pv 4)) pe_int)) pe_int)) (pss_one (ps_ret (pe_ifExp (pt_cmpR op_eq (pv 3) (pv 1) (nomark _)) (pe_op op_add (pv 6) (pv 4)) (pv 6))))))))), ?_⟩
  dsimp only at hQ
  refine q_asg (ev_call (ea_cons (ev_var rfl) (ea_cons (ev_var rfl) (ea_cons (ev_var rfl) ea_nil))) (spMKK hm ho)) fun H1 e1 => ?_
  dsimp only [List.set]
  have hm1 := hm.ex e1
  have isn : ∀ {σ : L2.St} {G : Hp} {x : V}, σ[3]? = some (some x) → EvT (tTest (tOp (fun x y H Q => y = .non ∧ Q (.bl (decide (x = .non))) H) (tVar 3) (tC .non))) σ G (decide (x = .non)) := fun h => et_test (ev_op (ev_var h) ev_c fun H2 _ Q q => ⟨rfl, q H2 (Ex.refl H2)⟩)
  cases hs : m.sgn k l with
  | none =>
    unfold Md.cw at hQ
    rw [hs] at hQ
    exact q_when (isn rfl) (fun _ H2 e2 => s_ret ev_c fun H3 e3 => hQ H3 (e1.trans (e2.trans e3))) (fun hb _ _ => nomatch hb)
  | some sg =>
    refine q_when (isn rfl) (fun hb _ _ => nomatch hb) (fun _ H2 e2 => ?_)
    have hm2 := hm1.ex e2
    have hun : m.un sg = false := by
      rcases m.sgn_cases ho k l with ⟨h, _⟩ | ⟨h, _, h2, _⟩ | ⟨h, _, _, _, h2, _⟩
      · rw [hs] at h; exact nomatch h
      · rw [hs] at h; cases h; exact h2
      · rw [hs] at h; cases h; exact h2
    have hlow : -(m.low sg) = 2 ^ (m.b sg - 1) := by unfold Md.low; rw [hun, if_neg (by decide), Int.neg_neg]
    obtain ⟨b0, b1⟩ := ho.b sg
    obtain ⟨c0, c1⟩ := ho.b (m.com k l)
    have p1 := p2 (m.b sg - 1)
    have p2' := p2 (m.b (m.com k l))
    have q1 : (2 : Int) ^ (m.b sg - 1) < 2 ^ 128 := by
      have : (2 : Nat) ^ (m.b sg - 1) < 2 ^ 128 := Nat.pow_lt_pow_right (by decide) (by omega)
      exact_mod_cast this
    have q2 : (2 : Int) ^ m.b (m.com k l) ≤ 2 ^ 128 := by
      have : (2 : Nat) ^ m.b (m.com k l) ≤ 2 ^ 128 := Nat.pow_le_pow_right (by decide) c1
      exact_mod_cast this
    refine q_asg (v := .int (2 ^ (m.b sg - 1))) (ev_is (ev_un (ev_opU1 (eu_call (ea_cons (ev_var rfl) (ea_cons (ev_var rfl) ea_nil)) (spMU (k := sg) hm2 ho)) (fun G e => ev_c) fun p G h e => rv_ixT (st_of h) (atI_nat (j := 0) rfl)) ru_neg) (by rw [hlow])) fun H3 e3 => ?_
    have hm3 := hm2.ex e3
    refine q_asg (ev_op (shl1 c1 ev_c (ev_call (ea_cons (ev_var rfl) (ea_cons (ev_call (ea_cons (ev_var rfl) (ea_cons (ev_var rfl) (ea_cons (ev_var rfl) ea_nil))) (spMKK hm3 ho)) ea_nil)) (spMK hm3 ho))) ev_c rv_I0) fun H4 e4 => ?_
    have hQ2 : ∀ H', Ex H H' → Q (.int (if sg = k then 2 ^ (m.b sg - 1) * (2 * (2 ^ m.b (m.com k l) - 1) - 2 ^ (m.b sg - 1) + 1) / 2 + 2 ^ (m.b sg - 1) else 2 ^ (m.b sg - 1) * (2 * (2 ^ m.b (m.com k l) - 1) - 2 ^ (m.b sg - 1) + 1) / 2)) H' := by
      unfold Md.cw at hQ
      rw [hs] at hQ
      exact hQ
    generalize (2 : Int) ^ (m.b sg - 1) = a at *
    generalize (2 : Int) ^ m.b (m.com k l) = b at *
    refine q_asg (ev_op (ev_op (ev_var rfl) (ev_op (ev_op (ev_op ev_c (ev_var rfl) (rv_I (.inl ⟨by decide, by decide⟩))) (ev_var rfl) rv_I0) ev_c rv_I0) (rv_I (wide_mul (a := 140) (b := 140) (by omega) (by omega) (by decide) (by decide) (by decide)))) ev_c (rv_I ⟨by decide, by decide⟩)) fun H5 e5 => ?_
    refine s_ret (ev_if (b := decide (sg = k)) (et_is (et_test (ev_op (ev_var rfl) (ev_var rfl) (rv_eq rfl))) ?_) (fun hb => ev_is (ev_op (ev_var rfl) (ev_var rfl) rv_I0) ?_) (fun hb => ev_is (ev_var rfl) ?_)) fun H6 e6 => hQ2 H6 (e1.trans ((e2.trans e3).trans ((e4.trans e5).trans e6)))
    · exact kd_eq2 sg k
    · rw [if_pos (of_decide_eq_true hb)]
    · rw [if_neg (of_decide_eq_false hb)]

theorem sc_first_wrong : FnScope ["model", "first", "second", "signed", "least"] ["model", "first", "second"] (defScope s_first_wrong) := ⟨rfl, rfl, rfl, by decide +kernel, rfl, by decide +kernel, by decide +kernel⟩
theorem ok_first_wrong (D : Df K mg "first_wrong" s_first_wrong ["model", "first", "second"] f fd) (cs : Cl P w K mg base 4 "_checked_signed_one" ["model", "first", "second"] (PV (preMKK K fun m k l => sgV (m.sgn k l)))) (cl : Cl P w K mg base 2 "limits_of" ["model", "kind"] (PU (preMU K fun m k => [.int (m.low k), .int (m.high k)]))) :
    FnG P w K mg base CX0 5 f fd ["model", "first", "second"] (PDt K (preMD K Md.fw)) := by
  refine df_ok D sc_first_wrong (pre_lenD fun vs H v h => by obtain ⟨p, m, k, l, rfl, _⟩ := h; rfl) (fun cdv A outer s H vs Q E hG hr h => ?_)
  obtain ⟨v, ⟨p, m, k, l, rfl, hm, ho, rfl⟩, hQ⟩ := h
  have nd := sc_first_wrong.nd
  refine ⟨_, (pss_cons (ps_set (i := 3) nd rfl (.inl rfl) (pe_cl cs hG hr rfl (pa_cons (pv 0) (pa_cons (pv 1) (pa_cons (pv 2) pa_nil))))) (pss_cons (ps_if (pt_cmpR op_isN (pv 3) pe_non (nomark _)) (pss_one (ps_ret pe_non)) pss_nil) (pss_cons (ps_set (i := 4) nd rfl (.inl rfl) (pe_ix ix_tup (pe_cl cl hG hr rfl (pa_cons (pv 0) (pa_cons (pv 3) pa_nil))) pe_int (fun _ _ => rfl))) (pss_one (ps_ret (pe_ifExp (pt_cmpR op_eq (pv 3) (pv 1) (nomark _)) (pe_tup (pa_cons (pv 4) (pa_cons pe_int pa_nil))) (pe_tup (pa_cons pe_int (pa_cons (pv 4) pa_nil))))))))), ?_⟩
  refine q_asg (ev_call (ea_cons (ev_var rfl) (ea_cons (ev_var rfl) (ea_cons (ev_var rfl) ea_nil))) (spMKK hm ho)) fun H1 e1 => ?_
  dsimp only [List.set]
  have hm1 := hm.ex e1
  have isn : ∀ {σ : L2.St} {G : Hp} {x : V}, σ[3]? = some (some x) → EvT (tTest (tOp (fun x y H Q => y = .non ∧ Q (.bl (decide (x = .non))) H) (tVar 3) (tC .non))) σ G (decide (x = .non)) := fun h => et_test (ev_op (ev_var h) ev_c fun H2 _ Q q => ⟨rfl, q H2 (Ex.refl H2)⟩)
  cases hs : m.sgn k l with
  | none =>
    unfold Md.fw at hQ
    rw [hs] at hQ
    exact q_when (isn rfl) (fun _ H2 e2 => s_ret ev_c fun H3 e3 => hQ _ H3 (e1.trans (e2.trans e3)) .non) (fun hb _ _ => nomatch hb)
  | some sg =>
    refine q_when (isn rfl) (fun hb _ _ => nomatch hb) (fun _ H2 e2 => ?_)
    have hm2 := hm1.ex e2
    refine q_asg (v := .int (m.low sg)) (ev_opU1 (eu_call (ea_cons (ev_var rfl) (ea_cons (ev_var rfl) ea_nil)) (spMU (k := sg) hm2 ho)) (fun G e => ev_c) fun p G h e => rv_ixT (st_of h) (atI_nat (j := 0) rfl)) fun H3 e3 => ?_
    unfold Md.fw at hQ
    rw [hs] at hQ
    refine s_retD (d := if sg = k then .tuple [.int (m.low sg), .int 0] else .tuple [.int 0, .int (m.low sg)]) (ed_if (b := decide (sg = k)) (et_is (et_test (ev_op (ev_var rfl) (ev_var rfl) (rv_eq rfl))) (kd_eq2 sg k)) (fun hb => ?_) (fun hb => ?_)) fun v H4 e4 hv => hQ v H4 (e1.trans ((e2.trans e3).trans e4)) hv
    · rw [if_pos (of_decide_eq_true hb)]
      exact ed_tup (ead_cons (ed_of (ev_var rfl) fun _ _ => .int _) (ead_cons (ed_of ev_c fun _ _ => .int _) ead_nil)) (by show 2 ≤ 100000; decide)
    · rw [if_neg (of_decide_eq_false hb)]
      exact ed_tup (ead_cons (ed_of ev_c fun _ _ => .int _) (ead_cons (ed_of (ev_var rfl) fun _ _ => .int _) ead_nil)) (by show 2 ≤ 100000; decide)

theorem sc__law_pool : FnScope ["script", "at", "cell"] ["script", "at"] (defScope s__law_pool) := ⟨rfl, rfl, rfl, by decide +kernel, rfl, by decide +kernel, by decide +kernel⟩
theorem ok__law_pool (D : Df K mg "_law_pool" s__law_pool ["script", "at"] f fd) (cle : mg "len" = none) (cma : mg "max" = none) (cab : mg "abs" = none) : FnG P w K mg base CX0 1 f fd ["script", "at"] (spPool K) := by
  refine df_ok D sc__law_pool (fun vs H Q E h => by obtain ⟨a, ns, at_, rfl, _⟩ := h; rfl) (fun cdv A outer s H vs Q E hG hr h => ?_)
  obtain ⟨a, ns, at_, rfl, hS, hz, h63, hQ⟩ := h
  have nd := sc__law_pool.nd
  refine ⟨_, (pss_cons (ps_set (i := 2) nd rfl (.inl rfl) pe_int) (pss_cut (ps_if (pt_cmpR op_lt (pv 1) (pe_callB call_len_seq (by rfl) cle PySem.boot_len (pa_cons (pv 0) pa_nil)) (nomark _)) (pss_one (ps_set (i := 2) nd rfl (.inl rfl) (pe_ix ix_list (pv 0) (pv 1) (fun _ _ => rfl)))) pss_nil) (pss_one (ps_ret (pe_lst (pa_cons (pe_callB (call_max2 rfl) (by rfl) cma (by decide +kernel) (pa_cons pe_int (pa_cons (pe_op op_sub (pe_callB call_abs (by rfl) cab (by decide +kernel) (pa_cons (pv 2) pa_nil)) (pe_op op_powW pe_int pe_int)) pa_nil))) (pa_cons (pe_op op_add (pe_op op_mod (pv 2) pe_int) (pe_op op_mul pe_int (pe_op op_add (pv 1) pe_int))) (pa_cons pe_int pa_nil)))))))), ?_⟩
  refine q_asg (v := .int 0) ev_c fun H1 e1 => ?_
  dsimp only [List.set]
  have sL : ∀ {G : Hp}, Ex H G → SqL K G a (ns.map V.int) := fun e => ex_l e hS
  refine q_cut (M := fun σ' G => ∃ c : Int, Ex H G ∧ σ' = [some (.ref a), some (.int (at_ : Nat)), some (.int c)]) ?_ (fun σ' G hp => ?_)
  · refine s_if (b := decide ((at_ : Int) < (ns.length : Nat))) (et_is (et_test (ev_op (ev_var rfl) (ev_cb (z := .int ((ns.map V.int).length : Nat)) (ea_cons (ev_var rfl) ea_nil) fun H2 e2 Q1 q1 => ⟨a, _, rfl, .inl (sL (e1.trans e2)), q1 H2 (Ex.refl H2)⟩) rv_I0)) (by rw [List.length_map])) (fun hb H2 e2 => ?_) (fun hb H2 e2 => ⟨0, e1.trans e2, rfl⟩)
    have hlt : at_ < ns.length := by have := of_decide_eq_true hb; omega
    refine s_asg (ev_op (ev_var rfl) (ev_var rfl) (rv_ixL (sL (e1.trans e2)) (atI_nat (v := .int ns[at_]) (by rw [List.getElem?_map, List.getElem?_eq_getElem hlt]; rfl)))) fun H3 e3 => ⟨ns[at_], (e1.trans e2).trans e3, rfl⟩
  obtain ⟨c, e2, rfl⟩ := hp
  have cm : CMul 2976221207 ((at_ : Int) + 1) := .inl ⟨by decide, by decide⟩
  have m0 := Int.emod_nonneg c (show (2305843009213693951 : Int) ≠ 0 by decide)
  have m1 := Int.emod_lt_of_pos c (show (0 : Int) < 2305843009213693951 by decide)
  refine s_retL (el_lst (ea_cons (ev_cb (ea_cons ev_c (ea_cons (ev_op (ev_cb (z := .int (if c < 0 then -c else c)) (ea_cons (ev_var rfl) ea_nil) fun H2 e2 Q1 q1 => ⟨c, rfl, q1 H2 (Ex.refl H2)⟩) (ev_op ev_c ev_c (rv_I ⟨by decide, by decide, by decide⟩)) rv_I0) ea_nil)) fun H2 e2 Q1 q1 => ⟨_, _, rfl, q1 H2 (Ex.refl H2)⟩)
    (ea_cons (ev_op (ev_op (ev_var rfl) ev_c (rv_I (by decide))) (ev_op ev_c (ev_op (ev_var rfl) ev_c rv_I0) (rv_I cm)) rv_I0) (ea_cons ev_c ea_nil))) (by show 3 ≤ 100000; decide)) fun r H4 n4 e4 h4 => ?_
  exact hQ r H4 (fresh_back e2 n4) (e2.trans e4) ⟨_, _, 0, h4, by omega, by omega, by omega⟩

theorem sc__law_draw : FnScope ["pool", "many", "drawn", "mixed"] ["pool", "many"] (defScope s__law_draw) := ⟨rfl, rfl, rfl, by decide +kernel, rfl, by decide +kernel, by decide +kernel⟩
theorem ok__law_draw (D : Df K mg "_law_draw" s__law_draw ["pool", "many"] f fd) : FnG P w K mg base CX0 1 f fd ["pool", "many"] spDraw := by
  refine df_ok D sc__law_draw (fun vs H Q E h => by obtain ⟨a, l, n, rfl, _⟩ := h; rfl) (fun cdv A outer s H vs Q E hG hr h => ?_)
  obtain ⟨r, l, n, rfl, l0, l1, hn, ⟨d, sd, c, hL, sb, c0, c1⟩, hQ⟩ := h
  have nd := sc__law_draw.nd
  refine ⟨_, pss_cons (ps_if (pt_cmpR op_gt (pe_ix ix_list (pv 0) pe_int (fun _ _ => rfl)) pe_int (nomark _))
      (pss_cons (ps_set (i := 2) nd rfl (.inl rfl) (pe_op op_mod (pe_ix ix_list (pv 0) pe_int (fun _ _ => rfl)) (pv 1)))
      (pss_cons (ps_asg (pe_op op_fdivW (pe_ix ix_list (pv 0) pe_int (fun _ _ => rfl)) (pv 1)) (pg_sub (pv 0) pe_int set_list))
      (pss_one (ps_ret (pv 2))))) pss_nil)
    (pss_cons (ps_asg (pe_op op_add (pe_ix ix_list (pv 0) pe_int (fun _ _ => rfl)) pe_int) (pg_sub (pv 0) pe_int set_list))
    (pss_cons (ps_set (i := 3) nd rfl (.inl rfl) (pe_op op_mod (pe_op op_powW (pe_op op_add (pe_ix ix_list (pv 0) pe_int (fun _ _ => rfl)) (pe_op op_mul pe_int (pe_ix ix_list (pv 0) pe_int (fun _ _ => rfl)))) pe_int) pe_int))
    (pss_cons (ps_set (i := 3) nd rfl (.inl rfl) (pe_op op_mod (pe_op op_powW (pe_op op_add (pv 3) (pe_op op_mul pe_int (pe_ix ix_list (pv 0) pe_int (fun _ _ => rfl)))) pe_int) pe_int))
    (pss_one (ps_ret (pe_op op_mod (pe_op op_fdivW (pv 3) pe_int) (pv 1))))))), ?_⟩
  have ix : ∀ {σ : L2.St} {H : Hp} {xs : List V} {j : Nat} {v : V}, H r = some (.lst xs) → σ[0]? = some (some (.ref r)) → xs[j]? = some v → Ev (tOp (rIxL K) (tVar 0) (tC (.int (j : Int)))) σ H v := fun h h0 hj => ev_op (ev_var h0) ev_c (rv_ixL (sq_of h) (atI_nat hj))
  refine q_when (et_test (ev_op (ix (j := 0) hL rfl rfl) ev_c rv_I0)) (fun hb H1 e1 => ?_) (fun hb H1 e1 => ?_)
  · have hL1 := e1 _ _ hL
    refine q_asg (ev_op (ix (j := 0) hL1 rfl rfl) (ev_var rfl) (rv_I l0)) fun H2 e2 => ?_
    have hL2 := e2 _ _ hL1
    refine q_setL (j := 0) hL2 (ev_op (ix (j := 0) hL2 rfl rfl) (ev_var rfl) (rv_I ⟨l0, l1⟩)) (ev_var rfl) ev_c (by show 0 < 3; decide) fun H3 e3 => ?_
    have bu : Bu r H (upd H3 r (.lst ([V.int d, V.int sd, V.int c].set 0 (V.int (d / l))))) := (Bu.of (((e1.trans e2).trans e3))).trans Bu.upd
    refine s_ret (ev_var rfl) fun H4 e4 => hQ H4 _ (bu.trans (Bu.of e4)) (Rng.ex ⟨d / l, sd, c, upd_same, sb, c0, by omega⟩ e4) (Int.emod_nonneg _ (by omega)) (Int.emod_lt_of_pos _ l0)
  · have hL1 := e1 _ _ hL
    refine q_setL (j := 2) hL1 (ev_op (ix (j := 2) hL1 rfl rfl) ev_c rv_I0) (ev_var rfl) ev_c (by show 2 < 3; decide) fun H2 e2 => ?_
    have bu : Bu r H (upd H2 r (.lst ([V.int d, V.int sd, V.int c].set 2 (V.int (c + 1))))) := (Bu.of (e1.trans e2)).trans Bu.upd
    have hL2 : (upd H2 r (.lst ([V.int d, V.int sd, V.int c].set 2 (V.int (c + 1))))) r = some (.lst [V.int d, V.int sd, V.int (c + 1)]) := upd_same
    generalize upd H2 r (.lst ([V.int d, V.int sd, V.int c].set 2 (V.int (c + 1)))) = H3 at bu hL2 ⊢
    have cm : CMul 15487039 (c + 1) := .inl ⟨by decide, by decide⟩
    have cm2 : CMul 32452867 (c + 1) := .inl ⟨by decide, by decide⟩
    have b1 : (sd + 15487039 * (c + 1)).natAbs < 2 ^ 200 := by omega
    refine q_asg (ev_op (ev_op (ev_op (ix (j := 1) hL2 rfl rfl) (ev_op ev_c (ix (j := 2) hL2 rfl rfl) (rv_I cm)) rv_I0) ev_c (rv_I (small_log (by decide) b1 (by decide)))) ev_c (rv_I (by decide))) fun H4 e4 => ?_
    have hL4 := e4 _ _ hL2
    have m0 := Int.emod_nonneg ((sd + 15487039 * (c + 1)) ^ (3 : Int).toNat) (show (162259276829213363391578010288127 : Int) ≠ 0 by decide)
    have m1 := Int.emod_lt_of_pos ((sd + 15487039 * (c + 1)) ^ (3 : Int).toNat) (show (0 : Int) < 162259276829213363391578010288127 by decide)
    generalize (sd + 15487039 * (c + 1)) ^ (3 : Int).toNat % 162259276829213363391578010288127 = x at m0 m1 ⊢
    have b2 : (x + 32452867 * (c + 1)).natAbs < 2 ^ 200 := by omega
    refine q_asg (ev_op (ev_op (ev_op (ev_var rfl) (ev_op ev_c (ix (j := 2) hL4 rfl rfl) (rv_I cm2)) rv_I0) ev_c (rv_I (small_log5 (by decide) b2 (by decide)))) ev_c (rv_I (by decide))) fun H5 e5 => ?_
    refine s_ret (ev_op (ev_op (ev_var rfl) ev_c (rv_I ⟨by decide, by decide⟩)) (ev_var rfl) (rv_I l0)) fun H6 e6 => ?_
    exact hQ H6 _ ((bu.trans (Bu.of e4)).trans (Bu.of (e5.trans e6))) ⟨d, sd, c + 1, e6 _ _ (e5 _ _ hL4), sb, by omega, by omega⟩ (Int.emod_nonneg _ (by omega)) (Int.emod_lt_of_pos _ l0)

theorem sc__law_kinds : FnScope [] [] (defScope s__law_kinds) := ⟨rfl, rfl, rfl, by decide +kernel, rfl, by decide +kernel, by decide +kernel⟩
theorem ok__law_kinds (D : Df K mg "_law_kinds" s__law_kinds [] f fd) : FnG P w K mg base CX0 1 f fd [] (PL (preNil vKINDS)) := by
  refine df_ok D sc__law_kinds (fun vs H Q E h => by obtain ⟨xs, ⟨rfl, _⟩, _⟩ := h; rfl) (fun cdv A outer s H vs Q E hG hr h => ?_)
  obtain ⟨xs, ⟨rfl, rfl⟩, hQ⟩ := h
  refine ⟨_, pss_one (ps_ret (pe_lst (pa_cons pe_str (pa_cons pe_str (pa_cons pe_str (pa_cons pe_str (pa_cons pe_str (pa_cons pe_str (pa_cons pe_str (pa_cons pe_str (pa_cons pe_str (pa_cons pe_str (pa_cons pe_str pa_nil))))))))))))), ?_⟩
  exact s_retL (el_lst (ea_cons ev_c (ea_cons ev_c (ea_cons ev_c (ea_cons ev_c (ea_cons ev_c (ea_cons ev_c (ea_cons ev_c (ea_cons ev_c (ea_cons ev_c (ea_cons ev_c (ea_cons ev_c ea_nil))))))))))) (by decide)) hQ

theorem sc__law_bits : FnScope ["book", "kind"] ["book", "kind"] (defScope s__law_bits) := ⟨rfl, rfl, rfl, by decide +kernel, rfl, by decide +kernel, by decide +kernel⟩
theorem ok__law_bits (D : Df K mg "_law_bits" s__law_bits ["book", "kind"] f fd) (ck : Cl P w K mg base 1 "_law_kinds" [] (PL (preNil vKINDS))) : FnG P w K mg base CX0 2 f fd ["book", "kind"] (PV (preMK K fun m k => .int (m.b k))) := by
  refine df_ok D sc__law_bits (pre_len1 fun vs H v h => by obtain ⟨p, m, k, rfl, _⟩ := h; rfl) (fun cdv A outer s H vs Q E hG hr h => ?_)
  obtain ⟨v, ⟨p, m, k, rfl, hm, ho, rfl⟩, hQ⟩ := h
  obtain ⟨q, h1, h2⟩ := hm
  refine ⟨_, pss_one (ps_ret (pe_ix ix_tup (pe_ix ix_tup (pv 0) pe_int (fun _ _ => rfl)) (pe_ix ix_list (pe_lst (pa_cons pe_int (pa_cons pe_int (pa_cons pe_int (pa_cons pe_int (pa_cons pe_int (pa_cons pe_int (pa_cons pe_int (pa_cons pe_int (pa_cons pe_int (pa_cons pe_int (pa_cons pe_int pa_nil))))))))))))
    (pe_bm PySem.F.plainAttrs_list PySem.F.slot_list_index PySem.F.type_list_index mt_index (pe_cl0 ck hG hr rfl) (pa_cons (pv 1) pa_nil)) (fun _ _ => rfl)) (fun _ _ => rfl))), ?_⟩
  refine s_ret (ev_op (ev_op (ev_var rfl) ev_c (rv_ixT h1 (atI_nat (j := 0) rfl))) (ev_opL1 (xs := [.int 0, .int 0, .int 0, .int 1, .int 1, .int 2, .int 2, .int 3, .int 3, .int 4, .int 4]) (y := .int (k.ix : Nat)) (z := .int (k.rk : Nat))
    (el_lst (ea_cons ev_c (ea_cons ev_c (ea_cons ev_c (ea_cons ev_c (ea_cons ev_c (ea_cons ev_c (ea_cons ev_c (ea_cons ev_c (ea_cons ev_c (ea_cons ev_c (ea_cons ev_c ea_nil))))))))))) (by decide)) (fun H1 e1 => ?_) (fun p H1 h1 e1 => ?_)) (rv_ixT h2 (atI_nat (j := k.rk) (Md.at_ k.rk_lt)))) hQ
  · exact ev_index (el_call ea_nil (PL.sp fun H2 e2 => ⟨rfl, rfl⟩)) fun H2 e2 => ev_var rfl
  · exact rv_ixL (sq_of h1) (atI_nat (by cases k <;> rfl))

theorem sc__law_is_unsigned : FnScope ["book", "kind"] ["book", "kind"] (defScope s__law_is_unsigned) := ⟨rfl, rfl, rfl, by decide +kernel, rfl, by decide +kernel, by decide +kernel⟩
theorem ok__law_is_unsigned (D : Df K mg "_law_is_unsigned" s__law_is_unsigned ["book", "kind"] f fd) : FnG P w K mg base CX0 1 f fd ["book", "kind"] (PV (preMK K fun m k => .bl (m.un k))) := by
  refine df_ok D sc__law_is_unsigned (pre_len1 fun vs H v h => by obtain ⟨p, m, k, rfl, _⟩ := h; rfl) (fun cdv A outer s H vs Q E hG hr h => ?_)
  obtain ⟨v, ⟨p, m, k, rfl, hm, ho, rfl⟩, hQ⟩ := h
  obtain ⟨q, h1, h2⟩ := hm
  refine ⟨_, pss_one (ps_ret (pe_ifExp (pt_cmpR op_eq (pv 1) pe_str (nomark _)) (pe_cmpR op_eq (pe_ix ix_tup (pv 0) pe_int (fun _ _ => rfl)) pe_str (nomark _)) (pe_cmpR op_eq (pe_ix ix_str (pv 1) pe_int (fun _ _ => rfl)) pe_str (nomark _)))), ?_⟩
  refine s_ret (ev_if (b := decide (k = .ch)) (et_is (et_test (ev_op (ev_var rfl) ev_c (rv_eq rfl))) ?_) (fun hb => ?_) (fun hb => ?_)) hQ
  · cases k <;> decide +kernel
  · have hk : k = .ch := of_decide_eq_true hb
    subst hk
    refine ev_is (ev_op (ev_op (ev_var rfl) ev_c (rv_ixT h1 (atI_nat (j := 1) rfl))) ev_c (rv_eq rfl)) ?_
    show V.bl (decide (V.str (plS m.u) = V.str "u")) = V.bl m.u
    cases m.u <;> decide +kernel
  · show Ev _ _ _ (.bl (m.un k))
    rw [un_isU m (of_decide_eq_false hb)]
    exact ev_isU (ev_var rfl)

theorem sc__law_ends : FnScope ["book", "kind", "many", "half", "turn"] ["book", "kind"] (defScope s__law_ends) := ⟨rfl, rfl, rfl, by decide +kernel, rfl, by decide +kernel, by decide +kernel⟩
theorem ok__law_ends (D : Df K mg "_law_ends" s__law_ends ["book", "kind"] f fd) (cb : Cl P w K mg base 2 "_law_bits" ["book", "kind"] (PV (preMK K fun m k => .int (m.b k))))
    (cu : Cl P w K mg base 1 "_law_is_unsigned" ["book", "kind"] (PV (preMK K fun m k => .bl (m.un k)))) (cra : mg "range" = none) : FnG P w K mg base CX0 3 f fd ["book", "kind"] (PU (preMU K fun m k => [.int (m.low k), .int (m.high k)])) := by
  refine df_ok D sc__law_ends (pre_lenU fun vs H v h => by obtain ⟨p, m, k, rfl, _⟩ := h; rfl) (fun cdv A outer s H vs Q E hG hr h => ?_)
  obtain ⟨v, ⟨p, m, k, rfl, hm, ho, rfl⟩, hQ⟩ := h
  obtain ⟨b0, b1⟩ := ho.b k
  have nd := sc__law_ends.nd
  refine ⟨_, (pss_cons (ps_set (i := 2) nd rfl (.inl rfl) (pe_cl cb hG hr rfl (pa_cons (pv 0) (pa_cons (pv 1) pa_nil)))) (pss_cons (ps_set (i := 3) nd rfl (.inl rfl) pe_int) (pss_cons (ps_for PassesOwn.never rfl (pi_range1 (by rfl) cra (pa_cons (pe_op op_sub (pv 2) pe_int) pa_nil)) (pg_name (i := 4) nd rfl (.inl rfl)) (pss_one (ps_set (i := 3) nd rfl (.inl rfl) (pe_op op_mul (pv 3) pe_int)))) (pss_one (ps_ret (pe_ifExp (pt_val (pe_cl cu hG hr rfl (pa_cons (pv 0) (pa_cons (pv 1) pa_nil)))) (pe_tup (pa_cons pe_int (pa_cons (pe_op op_sub (pe_op op_mul (pv 3) pe_int) pe_int) pa_nil))) (pe_tup (pa_cons (pe_op op_sub pe_int (pv 3)) (pa_cons (pe_op op_sub (pv 3) pe_int) pa_nil))))))))), ?_⟩
  refine q_asg (ev_mk hm ho rfl rfl) fun H1 e1 => ?_
  refine q_asg (v := .int 1) ev_c fun H2 e2 => ?_
  have e02 := e1.trans e2
  refine q_forR1 (n := (m.b k : Int) - 1) (ea_cons (ev_op (ev_var rfl) ev_c rv_I0) ea_nil) (by omega) (fun i σ G => Ex H G ∧ ∃ y4, σ = [some (.ref p), some k.v, some (.int (m.b k)), some (.int (2 ^ i)), y4]) (fun G e => ⟨e02.trans e, none, rfl⟩) ?_ ?_
  · intro i σ G hi hp
    obtain ⟨eg, y4, rfl⟩ := hp
    dsimp only [List.set]
    refine s_asg (ev_op (ev_var rfl) ev_c (rv_I (.inr ⟨by decide, by decide⟩))) fun G2 e2 => ⟨eg.trans e2, some (.int (i : Nat)), ?_⟩
    rw [Int.pow_succ]
    rfl
  · intro σ G hp
    obtain ⟨eg, y4, rfl⟩ := hp
    have ht : ((m.b k : Int) - 1).toNat = m.b k - 1 := by omega
    rw [ht]
    have ps := p2s (n := m.b k) (by omega)
    refine s_retU (eu_if (b := m.un k) (et_B (ev_mk (hm.ex eg) ho rfl rfl)) (fun hb => eu_tup (ea_cons (ev_is ev_c ?_) (ea_cons (ev_is (ev_op (ev_op (ev_var rfl) ev_c (rv_I (.inr ⟨by decide, by decide⟩))) ev_c rv_I0) ?_) ea_nil)) (by show 2 ≤ 100000; decide))
      (fun hb => eu_tup (ea_cons (ev_is (ev_op ev_c (ev_var rfl) rv_I0) ?_) (ea_cons (ev_is (ev_op (ev_var rfl) ev_c rv_I0) ?_) ea_nil)) (by show 2 ≤ 100000; decide))) fun t G2 n2 e2 h2 => hQ t G2 (fresh_back eg n2) (eg.trans e2) h2
    · unfold Md.low
      rw [if_pos hb]
    · unfold Md.high
      rw [if_pos hb, ps, Int.mul_comm]
    · unfold Md.low
      rw [if_neg (by rw [hb]; decide), Int.zero_sub]
    · unfold Md.high
      rw [if_neg (by rw [hb]; decide)]

theorem sc__law_common : FnScope ["book", "one", "two", "kinds", "some", "kind", "plus", "minus"] ["book", "one", "two"] (defScope s__law_common) := ⟨rfl, rfl, rfl, by decide +kernel, rfl, by decide +kernel, by decide +kernel⟩
theorem ok__law_common (D : Df K mg "_law_common" s__law_common ["book", "one", "two"] f fd) (ck : Cl P w K mg base 1 "_law_kinds" [] (PL (preNil vKINDS))) (cb : Cl P w K mg base 2 "_law_bits" ["book", "kind"] (PV (preMK K fun m k => .int (m.b k))))
    (cu : Cl P w K mg base 1 "_law_is_unsigned" ["book", "kind"] (PV (preMK K fun m k => .bl (m.un k)))) : FnG P w K mg base CX0 3 f fd ["book", "one", "two"] (PV (preMKK K fun m k l => (m.com k l).v)) := by
  refine df_ok D sc__law_common (pre_len1 fun vs H v h => by obtain ⟨p, m, k, l, rfl, _⟩ := h; rfl) (fun cdv A outer s H vs Q E hG hr h => ?_)
  obtain ⟨v, ⟨p, m, k, l, rfl, hm, ho, rfl⟩, hQ⟩ := h
  have nd := sc__law_common.nd
  refine ⟨_, (pss_cons (ps_set (i := 3) nd rfl (.inl rfl) (pe_cl0 ck hG hr rfl)) (pss_cons (ps_set (i := 4) nd rfl (.inl rfl) (pe_lst pa_nil)) (pss_cons (ps_for PassesOwn.never rfl (pi_tup (pe_tup (pa_cons (pv 1) (pa_cons (pv 2) pa_nil)))) (pg_name (i := 5) nd rfl (.inl rfl)) (pss_cut (ps_if (pt_cmpR op_lt (pe_bm PySem.F.plainAttrs_list PySem.F.slot_list_index PySem.F.type_list_index mt_index (pv 3) (pa_cons (pv 5) pa_nil)) pe_int (nomark _)) (pss_one (ps_set (i := 5) nd rfl (.inl rfl) (pe_ifExp (PW.pt (pw_and (pt_val (pe_cl cu hG hr rfl (pa_cons (pv 0) (pa_cons (pv 5) pa_nil)))) (pw_and1 (pt_cmpR op_eq (pe_cl cb hG hr rfl (pa_cons (pv 0) (pa_cons (pv 5) pa_nil))) (pe_cl cb hG hr rfl (pa_cons (pv 0) (pa_cons pe_str pa_nil))) (nomark _))))) pe_str pe_str))) pss_nil) (pss_one (ps_expr (pe_bm PySem.F.plainAttrs_list PySem.F.slot_list_append PySem.F.type_list_append mt_append (pv 4) (pa_cons (pv 5) pa_nil)))))) (pss_cons (ps_asg (pv 4) (pg_unl rfl (pgs_cons (pg_name (i := 1) nd rfl (.inl rfl)) (pgs_cons (pg_name (i := 2) nd rfl (.inl rfl)) pgs_nil)))) (pss_cons (ps_if (pt_cmpR op_eq (pe_cmpR op_eq (pe_ix ix_str (pv 1) pe_int (fun _ _ => rfl)) pe_str (nomark _)) (pe_cmpR op_eq (pe_ix ix_str (pv 2) pe_int (fun _ _ => rfl)) pe_str (nomark _)) (nomark _)) (pss_one (ps_ret (pe_ifExp (pt_cmpR op_ge (pe_bm PySem.F.plainAttrs_list PySem.F.slot_list_index PySem.F.type_list_index mt_index (pv 3) (pa_cons (pv 1) pa_nil)) (pe_bm PySem.F.plainAttrs_list PySem.F.slot_list_index PySem.F.type_list_index mt_index (pv 3) (pa_cons (pv 2) pa_nil)) (nomark _)) (pv 1) (pv 2)))) pss_nil) (pss_cons (ps_asg (pe_ifExp (pt_cmpR op_eq (pe_ix ix_str (pv 1) pe_int (fun _ _ => rfl)) pe_str (nomark _)) (pe_tup (pa_cons (pv 1) (pa_cons (pv 2) pa_nil))) (pe_tup (pa_cons (pv 2) (pa_cons (pv 1) pa_nil)))) (pg_tup rfl (pgs_cons (pg_name (i := 6) nd rfl (.inl rfl)) (pgs_cons (pg_name (i := 7) nd rfl (.inl rfl)) pgs_nil)))) (pss_cons (ps_if (pt_cmpR op_gt (pe_bm PySem.F.plainAttrs_list PySem.F.slot_list_index PySem.F.type_list_index mt_index (pv 3) (pa_cons (pv 6) pa_nil)) (pe_bm PySem.F.plainAttrs_list PySem.F.slot_list_index PySem.F.type_list_index mt_index (pv 3) (pa_cons (pv 7) pa_nil)) (nomark _)) (pss_one (ps_ret (pv 6))) pss_nil) (pss_one (ps_ret (pe_ifExp (pt_cmpR op_lt (pe_cl cb hG hr rfl (pa_cons (pv 0) (pa_cons (pv 6) pa_nil))) (pe_cl cb hG hr rfl (pa_cons (pv 0) (pa_cons (pv 7) pa_nil))) (nomark _)) (pv 7) (pe_op op_add_str pe_str (pv 7)))))))))))), ?_⟩
  dsimp only at hQ
  refine q_asgL el_labels fun ka H1 n1 e1 h1 => ?_
  refine q_asgL (el_lst ea_nil (by decide)) fun sa H2 n2 e2 h2 => ?_
  have k2 := e2 _ _ h1
  have nks : ka ≠ sa := fun z => by rw [← z, h1] at n2; exact nomatch n2
  have hm2 := hm.ex (e1.trans e2)
  refine q_forNT (xs := [k.v, l.v]) (eu_tup (ea_cons (ev_var rfl) (ea_cons (ev_var rfl) ea_nil)) (by show 2 ≤ 100000; decide)) (fun pt i σ G => ∃ y5, σ = [some (.ref p), some k.v, some l.v, some (.ref ka), some (.ref sa), y5, none, none] ∧ Ex H G ∧ G ka = some (.lst vKINDS) ∧ G pt = some (.tup [k.v, l.v]) ∧ pt ≠ sa ∧ G sa = some (.lst (([m.prom k, m.prom l].take i).map Kd.v))) ?_ ?_ ?_ ?_
  · exact fun pt G n e h => ⟨none, rfl, (e1.trans e2).trans e, e _ _ k2, h, (fun z => by rw [z, h2] at n; exact nomatch n), e _ _ h2⟩
  · exact fun pt i σ G _ hp => by
      obtain ⟨y5, _, _, _, h, _⟩ := hp
      exact st_of h
  · intro pt i x σ G hx hp
    obtain ⟨y5, rfl, eg, gk, gp, npt, gs⟩ := hp
    obtain ⟨z, hz, rfl⟩ : ∃ z : Kd, [k, l][i]? = some z ∧ x = z.v := by
      have : [k.v, l.v] = [k, l].map Kd.v := rfl
      rw [this, List.getElem?_map] at hx
      obtain ⟨z, h1, h2⟩ := Option.map_eq_some_iff.mp hx
      exact ⟨z, h1, h2.symm⟩
    dsimp only [List.set]
    refine q_cut (M := fun σ' G' => Ex G G' ∧ σ' = [some (.ref p), some k.v, some l.v, some (.ref ka), some (.ref sa), some (m.prom z).v, none, none]) ?_ (fun σ' G' hp2 => ?_)
    · refine s_when (et_test (ev_op (ev_indexA (ev_var rfl) (sq_of gk) (ev_var rfl)) ev_c rv_I0)) (fun hb G2 e2 => ?_) (fun hb G2 e2 => ⟨e2, ?_⟩)
      · have hb5 : z.ix < 5 := by have := of_decide_eq_true hb; omega
        have hm3 := (hm.ex eg).ex e2
        rw [m.law_prom ho z hb5]
        refine s_asg (v := (if (m.un z && decide (m.b z = m.b .it)) = true then Kd.ui else Kd.it).v) (ev_if (b := m.un z && decide (m.b z = m.b .it)) (et_is (et_and (et_B (ev_mk hm3 ho rfl rfl)) fun _ => et_test (ev_op (ev_mk hm3 ho rfl rfl) (ev_call (ea_cons (ev_var rfl) (ea_cons ev_c ea_nil)) (spMK (k := .it) hm3 ho)) (rv_eq rfl))) ?_) (fun hc => ?_) (fun hc => ?_)) fun G3 e3 => ⟨e2.trans e3, rfl⟩
        · congr 1
          exact decide_eq_decide.mpr ⟨fun q => by have := V.int.inj q; omega, fun q => by rw [q]⟩
        · rw [if_pos hc]
          exact ev_c
        · rw [if_neg (by rw [hc]; decide)]
          exact ev_c
      · rw [m.prom_ix z (by have := of_decide_eq_false hb; omega)]
    · obtain ⟨e2, rfl⟩ := hp2
      refine s_app (xs := ([m.prom k, m.prom l].take i).map Kd.v) (e2 _ _ gs) (ev_var rfl) (ev_var rfl) (by rw [List.length_map, List.length_take]; simp; omega) fun G3 e3 => ?_
      have eX : ∀ b o, b ≠ sa → G b = some o → (upd G3 sa (.lst (([m.prom k, m.prom l].take i).map Kd.v ++ [(m.prom z).v]))) b = some o := fun b o nb q => by
        rw [upd_ne nb]
        exact e3 _ _ (e2 _ _ q)
      have hH : Ex H (upd G3 sa (.lst (([m.prom k, m.prom l].take i).map Kd.v ++ [(m.prom z).v]))) := fun b o q => eX b o (fun z => by rw [z] at q; rw [e1 _ _ q] at n2; exact nomatch n2) (eg _ _ q)
      refine ⟨_, rfl, hH, eX _ _ nks gk, eX _ _ npt gp, npt, ?_⟩
      rw [upd_same]
      match i, hz with
      | 0, hz => cases hz; rfl
      | 1, hz => cases hz; rfl
  · intro pt σ G hp
    obtain ⟨y5, rfl, eg, gk, gp, npt, gs⟩ := hp
    have ha := m.prom_big k
    have hb := m.prom_big l
    have gs : G sa = some (.lst [(m.prom k).v, (m.prom l).v]) := gs
    unfold Md.com at hQ
    generalize m.prom k = a at ha gs hQ
    generalize m.prom l = b at hb gs hQ
    refine q_asgL2 (ev_var rfl) (sq_of gs) fun G2 e2 => ?_
    have k3 := e2 _ _ gk
    have hm3 := (hm.ex eg).ex e2
    refine q_when (b := decide (a.isU = b.isU)) (et_is (et_test (ev_op (ev_isU (ev_var rfl)) (ev_isU (ev_var rfl)) (rv_eq rfl))) (decide_eq_decide.mpr ⟨fun q => V.bl.inj q, fun q => by rw [q]⟩)) (fun hc G3 e3 => ?_) (fun hc G3 e3 => ?_)
    · rw [m.com2_same ha hb (of_decide_eq_true hc)] at hQ
      refine s_ret (ev_if (et_test (ev_op (ev_indexA (ev_var rfl) (sq_of (e3 _ _ k3)) (ev_var rfl)) (ev_indexA (ev_var rfl) (sq_of (e3 _ _ k3)) (ev_var rfl)) rv_I0)) (fun hd => ev_is (ev_var rfl) ?_) (fun hd => ev_is (ev_var rfl) ?_)) fun G4 e4 => hQ G4 ((eg.trans e2).trans (e3.trans e4))
      · rw [if_pos (by have := of_decide_eq_true hd; omega)]
      · rw [if_neg (by have := of_decide_eq_false hd; omega)]
    · have hne : a.isU ≠ b.isU := of_decide_eq_false hc
      rw [m.com2_mix ha hb hne] at hQ
      obtain ⟨x, y, hx, hy, ux, uy, hxy, hab⟩ : ∃ x y : Kd, x.big ∧ y.big ∧ x.isU = true ∧ y.isU = false ∧ (if a.isU = true then m.mix a b else m.mix b a) = m.mix x y ∧ (a.isU = true ∧ x = a ∧ y = b ∨ a.isU = false ∧ x = b ∧ y = a) := by
        cases hu : a.isU with
        | true => exact ⟨a, b, ha, hb, hu, by cases hv : b.isU with | true => exact absurd (hu.trans hv.symm) hne | false => rfl, rfl, .inl ⟨rfl, rfl, rfl⟩⟩
        | false => exact ⟨b, a, hb, ha, by cases hv : b.isU with | true => rfl | false => exact absurd (hu.trans hv.symm) hne, hu, rfl, .inr ⟨rfl, rfl, rfl⟩⟩
      rw [hxy, m.mix_law hx hy ux uy] at hQ
      refine q_asgT2 (x := x.v) (y := y.v) (eu_if (b := a.isU) (et_test (ev_isU (ev_var rfl))) (fun hu => ?_) (fun hu => ?_)) fun G4 e4 => ?_
      · rcases hab with ⟨_, rfl, rfl⟩ | ⟨hu2, _, _⟩
        · exact eu_tup (ea_cons (ev_var rfl) (ea_cons (ev_var rfl) ea_nil)) (by show 2 ≤ 100000; decide)
        · rw [hu] at hu2
          exact nomatch hu2
      · rcases hab with ⟨hu2, _, _⟩ | ⟨_, rfl, rfl⟩
        · rw [hu] at hu2
          exact nomatch hu2
        · exact eu_tup (ea_cons (ev_var rfl) (ea_cons (ev_var rfl) ea_nil)) (by show 2 ≤ 100000; decide)
      have k5 := e4 _ _ (e3 _ _ k3)
      have hm5 := (hm3.ex e3).ex e4
      have eH := (eg.trans e2).trans (e3.trans e4)
      refine q_when (et_test (ev_op (ev_indexA (k := x) (ev_var rfl) (sq_of k5) (ev_var rfl)) (ev_indexA (k := y) (ev_var rfl) (sq_of k5) (ev_var rfl)) rv_I0)) (fun hd G5 e5 => ?_) (fun hd G5 e5 => ?_)
      · rw [if_pos (by have := of_decide_eq_true hd; omega)] at hQ
        exact s_ret (ev_var rfl) fun G6 e6 => hQ G6 (eH.trans (e5.trans e6))
      · rw [if_neg (by have := of_decide_eq_false hd; omega)] at hQ
        have hm6 := hm5.ex e5
        refine s_ret (ev_if (et_test (ev_op (ev_mk (k := x) hm6 ho rfl rfl) (ev_mk (k := y) hm6 ho rfl rfl) rv_I0)) (fun hf => ev_is (ev_var rfl) ?_) (fun hf => ev_is (ev_op ev_c (ev_var rfl) (fun H9 _ Q9 q9 => ⟨_, _, rfl, rfl, u_len, q9 H9 (Ex.refl H9)⟩)) ?_)) fun G6 e6 => hQ G6 (eH.trans (e5.trans e6))
        · rw [if_pos (by have := of_decide_eq_true hf; omega)]
        · rw [if_neg (by have := of_decide_eq_false hf; omega), u_add hy uy]

theorem sc__law_into : FnScope ["book", "kind", "amount", "low", "high"] ["book", "kind", "amount"] (defScope s__law_into) := ⟨rfl, rfl, rfl, by decide +kernel, rfl, by decide +kernel, by decide +kernel⟩
theorem ok__law_into (D : Df K mg "_law_into" s__law_into ["book", "kind", "amount"] f fd) (ce : Cl P w K mg base 3 "_law_ends" ["book", "kind"] (PU (preMU K fun m k => [.int (m.low k), .int (m.high k)]))) : FnG P w K mg base CX0 4 f fd ["book", "kind", "amount"] (PV (preMKI K fun m k i => .int (m.conv k i))) := by
  refine df_ok D sc__law_into (pre_len1 fun vs H v h => by obtain ⟨p, m, k, i, rfl, _⟩ := h; rfl) (fun cdv A outer s H vs Q E hG hr h => ?_)
  obtain ⟨v, ⟨p, m, k, i, rfl, hm, ho, rfl⟩, hQ⟩ := h
  have nd := sc__law_into.nd
  refine ⟨_, (pss_cons (ps_asg (pe_cl ce hG hr rfl (pa_cons (pv 0) (pa_cons (pv 1) pa_nil))) (pg_tup rfl (pgs_cons (pg_name (i := 3) nd rfl (.inl rfl)) (pgs_cons (pg_name (i := 4) nd rfl (.inl rfl)) pgs_nil)))) (pss_one (ps_ret (pe_op op_add (pe_op op_mod (pe_op op_sub (pv 2) (pv 3)) (pe_op op_add (pe_op op_sub (pv 4) (pv 3)) pe_int)) (pv 3))))), ?_⟩
  refine q_asgT2 (eu_call (ea_cons (ev_var rfl) (ea_cons (ev_var rfl) ea_nil)) (spMU hm ho)) fun H1 e1 => ?_
  have e := m.span ho k
  have ps := p2 (m.b k)
  exact s_ret (ev_op (ev_op (ev_op (ev_var rfl) (ev_var rfl) rv_I0) (ev_op (ev_op (ev_var rfl) (ev_var rfl) rv_I0) ev_c rv_I0) (rv_I (by show (0 : Int) < _; omega))) (ev_var rfl) rv_I0) fun H2 e2 => hQ H2 (e1.trans e2)

end
def preM5 (K : PySem.W.Frag) : List V → Hp → PyData → Prop := fun vs H d => ∃ p m k l, vs = [.ref p, k.v, l.v] ∧ AtM K H p m ∧ m.Ok ∧ m.w4 ≤ 5 ∧ d = mixD m k l
section
variable {P : Program} {w : World} {K : PySem.W.Frag} {mg : Str → Option Value} {base : Heap} {f : Addr} {fd : FuncData}
theorem sc__law_tried : FnScope ["book", "one", "two", "low", "high", "begin", "end", "kind", "found", "left", "right"] ["book", "one", "two"] (defScope s__law_tried) := ⟨rfl, rfl, rfl, by decide +kernel, rfl, by decide +kernel, by decide +kernel⟩
theorem ok__law_tried (D : Df K mg "_law_tried" s__law_tried ["book", "one", "two"] f fd) (cc : Cl P w K mg base 3 "_law_common" ["book", "one", "two"] (PV (preMKK K fun m k l => (m.com k l).v))) (ce : Cl P w K mg base 3 "_law_ends" ["book", "kind"] (PU (preMU K fun m k => [.int (m.low k), .int (m.high k)])))
    (ci : Cl P w K mg base 4 "_law_into" ["book", "kind", "amount"] (PV (preMKI K fun m k i => .int (m.conv k i)))) (cra : mg "range" = none) (cle : mg "len" = none) : FnG P w K mg base CX0 5 f fd ["book", "one", "two"] (PDt K (preM5 K)) := by
  refine df_ok D sc__law_tried (pre_lenD fun vs H v h => by obtain ⟨p, m, k, l, rfl, _⟩ := h; rfl) (fun cdv A outer s H vs Q E hG hr h => ?_)
  obtain ⟨v, ⟨p, m, k, l, rfl, hm, ho, h5, rfl⟩, hQ⟩ := h
  have nd := sc__law_tried.nd
  have hu : A.units + 3 + 64 < cLine := hr.units
  refine ⟨_, (pss_cons (ps_asg (pe_cl ce hG hr rfl (pa_cons (pv 0) (pa_cons (pv 1) pa_nil))) (pg_tup rfl (pgs_cons (pg_name (i := 3) nd rfl (.inl rfl)) (pgs_cons (pg_name (i := 4) nd rfl (.inl rfl)) pgs_nil)))) (pss_cons (ps_asg (pe_cl ce hG hr rfl (pa_cons (pv 0) (pa_cons (pv 2) pa_nil))) (pg_tup rfl (pgs_cons (pg_name (i := 5) nd rfl (.inl rfl)) (pgs_cons (pg_name (i := 6) nd rfl (.inl rfl)) pgs_nil)))) (pss_cons (ps_par (i := 7) (j := 8) rfl nd rfl rfl (by decide) rfl rfl (pa_cons (pe_cl cc hG hr rfl (pa_cons (pv 0) (pa_cons (pv 1) (pa_cons (pv 2) pa_nil)))) (pa_cons (pe_lst pa_nil) pa_nil)) (by rfl)) (pss_cons (ps_for PassesOwn.never rfl (pi_range2 (by rfl) cra (pa_cons (pv 3) (pa_cons (pe_op op_add (pv 4) pe_int) pa_nil))) (pg_name (i := 9) nd rfl (.inl rfl)) (pss_one (ps_for PassesOwn.never rfl (pi_range2 (by rfl) cra (pa_cons (pv 5) (pa_cons (pe_op op_add (pv 6) pe_int) pa_nil))) (pg_name (i := 10) nd rfl (.inl rfl)) (pss_one (ps_if (pt_cmpR op_ne (pe_cmpR op_lt (pe_cl ci hG hr rfl (pa_cons (pv 0) (pa_cons (pv 7) (pa_cons (pv 9) pa_nil)))) (pe_cl ci hG hr rfl (pa_cons (pv 0) (pa_cons (pv 7) (pa_cons (pv 10) pa_nil)))) (nomark _)) (pe_cmpR op_lt (pv 9) (pv 10) (nomark _)) (nomark _)) (pss_one (ps_expr (pe_bm PySem.F.plainAttrs_list PySem.F.slot_list_append PySem.F.type_list_append mt_append (pv 8) (pa_cons (pe_tup (pa_cons (pv 9) (pa_cons (pv 10) pa_nil))) pa_nil)))) pss_nil))))) (pss_one (ps_ret (pe_lst (pa_cons (pe_callB call_len_seq (by rfl) cle PySem.boot_len (pa_cons (pv 8) pa_nil)) (pa_cons (pe_ifExp (pt_cmpR (op_neD hu) (pv 8) (pe_lst pa_nil) (nomark _)) (pe_ix ix_list (pv 8) pe_int (fun _ _ => rfl)) pe_non) pa_nil))))))))), ?_⟩
  refine q_asgT2 (eu_call (ea_cons (ev_var rfl) (ea_cons (ev_var rfl) ea_nil)) (spMU hm ho)) fun H1 e1 => ?_
  refine q_asgT2 (eu_call (ea_cons (ev_var rfl) (ea_cons (ev_var rfl) ea_nil)) (spMU (hm.ex e1) ho)) fun H2 e2 => ?_
  have e02 := e1.trans e2
  refine par_raw (ea_at (ev_call (ea_cons (ev_var rfl) (ea_cons (ev_var rfl) (ea_cons (ev_var rfl) ea_nil))) (spMKK (hm.ex e02) ho)) fun H3 e3 => ea_atL (el_lst ea_nil (by decide)) fun fa H4 n4 e4 h4 => nil_raw ⟨_, _, rfl, ?_⟩)
  dsimp only [List.set]
  have e04 := e02.trans (e3.trans e4)
  have hspan : ∀ z, m.high z + 1 - m.low z = 2 ^ m.b z := fun z => by have := m.span ho z; omega
  have hsm : ∀ z, m.b z ≤ 5 := fun z => by
    have e : m.b z ≤ m.w4 := by
      obtain ⟨h0, h1, h2, h3, h4, _⟩ := ho
      cases z <;> simp only [Md.b, Md.w, Kd.rk] <;> omega
    omega
  have hpw : ∀ z, (2 : Nat) ^ m.b z ≤ 32 := fun z => Nat.pow_le_pow_right (by decide) (hsm z)
  have hcast := fun z => nat_pow_cast (m.b z)
  have hlow : ∀ z, -32 ≤ m.low z ∧ m.low z ≤ 0 ∧ 0 ≤ m.high z ∧ m.high z ≤ 32 := fun z => by
    have a := m.low_le z
    have b := hspan z
    have d : (2 : Int) ^ m.b z ≤ 32 := by exact_mod_cast hpw z
    omega
  have nfa : H fa = none := fresh_back (e02.trans e3) n4
  -- what stands at fa
  generalize hS : ([some (.ref p), some k.v, some l.v, some (.int (m.low k)), some (.int (m.high k)), some (.int (m.low l)), some (.int (m.high l)), some (m.com k l).v, some (.ref fa)] : L2.St) = S
  have Inv : ∃ I : List (Int × Int) → Hp → Prop, (∀ W G, I W G ↔ (Ex H G ∧ ∃ ps : List Addr, G fa = some (.lst (ps.map V.ref)) ∧ ps.length = W.length ∧ ∀ (j : Nat) (q : Int × Int), W[j]? = some q → ∃ t, ps[j]? = some t ∧ G t = some (.tup [.int q.1, .int q.2]))) := ⟨_, fun W G => Iff.rfl⟩
  obtain ⟨I, hI⟩ := Inv
  have hlenW : ∀ a : Nat, ∀ b : Nat, a ≤ 32 → b ≤ 32 → (totW (m.wr (m.com k l)) (m.low k) (m.low l) a b).length ≤ 1024 := fun a b ha hb => by
    have := tot_len (m.wr (m.com k l)) (m.low k) (m.low l) a b
    have : b * a ≤ 32 * 32 := Nat.mul_le_mul hb ha
    omega
  subst hS
  refine q_forR2g (lo := m.low k) (n := m.high k + 1) (ea_cons (ev_var rfl) (ea_cons (ev_op (ev_var rfl) ev_c rv_I0) ea_nil)) (by have := hlow k; omega) (fun i σ G => I (totW (m.wr (m.com k l)) (m.low k) (m.low l) (2 ^ m.b l) i) G ∧ ∃ y9 y10, σ = [some (.ref p), some k.v, some l.v, some (.int (m.low k)), some (.int (m.high k)), some (.int (m.low l)), some (.int (m.high l)), some (m.com k l).v, some (.ref fa), y9, y10]) ?_ ?_ ?_
  · exact fun G eg => ⟨(hI _ _).mpr ⟨e04.trans eg, [], eg _ _ h4, rfl, fun j q h => nomatch h⟩, none, none, rfl⟩
  · intro i σ G hi hp
    obtain ⟨hw, y9, y10, rfl⟩ := hp
    dsimp only [List.set]
    have hik : i < 2 ^ m.b k := by
      have h1 := hspan k
      have h2 : (i : Int) < 2 ^ m.b k := by omega
      exact_mod_cast h2
    have hi32 : i ≤ 32 := by have := hpw k; omega
    refine s_forR2g (lo := m.low l) (n := m.high l + 1) (ea_cons (ev_var rfl) (ea_cons (ev_op (ev_var rfl) ev_c rv_I0) ea_nil)) (by have := hlow l; omega) (fun j σ G2 => I (rowW (m.wr (m.com k l) (m.low k + i)) (m.low k + i) (m.low l) j (totW (m.wr (m.com k l)) (m.low k) (m.low l) (2 ^ m.b l) i)) G2 ∧ ∃ y10, σ = [some (.ref p), some k.v, some l.v, some (.int (m.low k)), some (.int (m.high k)), some (.int (m.low l)), some (.int (m.high l)), some (m.com k l).v, some (.ref fa), some (.int (m.low k + (i : Int))), y10]) ?_ ?_ ?_
    · intro G2 e2
      obtain ⟨hw1, ps, hw2, hw3, hw4⟩ := (hI _ _).mp hw
      exact ⟨(hI _ _).mpr ⟨hw1.trans e2, ps, e2 _ _ hw2, hw3, fun j q h => by
        obtain ⟨t, t1, t2⟩ := hw4 j q h
        exact ⟨t, t1, e2 _ _ t2⟩⟩, y10, rfl⟩
    · intro j σ G2 hj hp2
      obtain ⟨hw2, z10, rfl⟩ := hp2
      dsimp only [List.set]
      have hjl : j < 2 ^ m.b l := by
        have h1 := hspan l
        have h2 : (j : Int) < 2 ^ m.b l := by omega
        exact_mod_cast h2
      have hj32 : j ≤ 32 := by have := hpw l; omega
      obtain ⟨w1, ps, w2, w3, w4⟩ := (hI _ _).mp hw2
      generalize hWd : rowW (m.wr (m.com k l) (m.low k + i)) (m.low k + i) (m.low l) j (totW (m.wr (m.com k l)) (m.low k) (m.low l) (2 ^ m.b l) i) = W at hw2 w3 w4
      have hWl : W.length ≤ 2000 := by
        rw [← hWd]
        have a := row_len (m.wr (m.com k l) (m.low k + i)) (m.low k + i) (m.low l) j (totW (m.wr (m.com k l)) (m.low k) (m.low l) (2 ^ m.b l) i)
        have b := hlenW (2 ^ m.b l) i (hpw l) hi32
        omega
      have hm2 := hm.ex w1
      refine s_when (b := m.wr (m.com k l) (m.low k + i) (m.low l + j)) (et_test (ev_op (ev_op (ev_call (ea_cons (ev_var rfl) (ea_cons (ev_var rfl) (ea_cons (ev_var rfl) ea_nil))) (spMKI hm2 ho)) (ev_call (ea_cons (ev_var rfl) (ea_cons (ev_var rfl) (ea_cons (ev_var rfl) ea_nil))) (spMKI hm2 ho)) rv_I0) (ev_op (ev_var rfl) (ev_var rfl) rv_I0) (rv_ne rfl))) (fun hb G3 e3 => ?_) (fun hb G3 e3 => ?_)
      · refine s_appU (xs := ps.map V.ref) (e3 _ _ w2) (ev_var rfl) (eu_tup (ea_cons (ev_var rfl) (ea_cons (ev_var rfl) ea_nil)) (by show 2 ≤ 100000; decide)) (by rw [List.length_map]; omega) fun t G4 n4 e4 h4 => ?_
        have ntf : t ≠ fa := fun z => by rw [z, e3 _ _ w2] at n4; exact nomatch n4
        have key : ∀ c o, c ≠ fa → G2 c = some o → (upd G4 fa (.lst (ps.map V.ref ++ [.ref t]))) c = some o := fun c o nc hc => by
          rw [upd_ne nc]
          exact e4 _ _ (e3 _ _ hc)
        refine ⟨(hI _ _).mpr ⟨fun c o hc => key c o (fun z => by rw [z, nfa] at hc; exact nomatch hc) (w1 _ _ hc), ps ++ [t], ?_, ?_, ?_⟩, _, rfl⟩
        · rw [List.map_append]
          exact upd_same
        · simp only [rowW]
          rw [hb, if_pos rfl, hWd, List.length_append, List.length_append, w3]
          rfl
        · intro x q hq
          simp only [rowW] at hq
          rw [hb, if_pos rfl, hWd] at hq
          rcases Nat.lt_or_ge x W.length with hx | hx
          · rw [List.getElem?_append_left hx] at hq
            obtain ⟨t2, t3, t4⟩ := w4 x q hq
            have hx2 : x < ps.length := by omega
            refine ⟨t2, by rw [List.getElem?_append_left hx2]; exact t3, key _ _ (fun z => by rw [z, w2] at t4; exact nomatch t4) t4⟩
          · rw [List.getElem?_append_right hx] at hq
            have hx0 : x - W.length = 0 := by
              rcases Nat.eq_zero_or_pos (x - W.length) with z | z
              · exact z
              · rw [List.getElem?_eq_none (by simp only [List.length_singleton]; omega)] at hq
                exact nomatch hq
            rw [hx0] at hq
            cases hq
            refine ⟨t, ?_, ?_⟩
            · rw [List.getElem?_append_right (by omega), show x - ps.length = 0 by omega]
              rfl
            · rw [upd_ne ntf]
              exact h4
      · refine ⟨(hI _ _).mpr ⟨w1.trans e3, ps, e3 _ _ w2, ?_, ?_⟩, _, rfl⟩
        · simp only [rowW]
          rw [hb, if_neg (by decide), hWd]
          exact w3
        · intro x q hq
          simp only [rowW] at hq
          rw [hb, if_neg (by decide), hWd] at hq
          obtain ⟨t, t1, t2⟩ := w4 x q hq
          exact ⟨t, t1, e3 _ _ t2⟩
    · intro σ G2 hp2
      obtain ⟨hw2, z10, rfl⟩ := hp2
      have hN : (m.high l + 1 - m.low l).toNat = 2 ^ m.b l := by
        rw [hspan, ← nat_pow_cast, Int.toNat_natCast]
      rw [hN] at hw2
      exact ⟨hw2, _, _, rfl⟩
  · intro σ G hp
    obtain ⟨hw, y9, y10, rfl⟩ := hp
    have hN : (m.high k + 1 - m.low k).toNat = 2 ^ m.b k := by
      rw [hspan, ← nat_pow_cast, Int.toNat_natCast]
    rw [hN] at hw
    obtain ⟨w1, ps, w2, w3, w4⟩ := (hI _ _).mp hw
    obtain ⟨t1, t2⟩ := m.tried_ok ho h5 k l
    have eW : totW (m.wr (m.com k l)) (m.low k) (m.low l) (2 ^ m.b l) (2 ^ m.b k) = m.tried k l := rfl
    rw [eW] at w3 w4
    unfold mixD at hQ
    rw [← t1, ← t2] at hQ
    generalize m.tried k l = W at w3 w4 hQ
    have hdp : ∀ G2, Ex G G2 → Dp K G2 (.ref fa) (.list (W.map pairD)) := fun G2 e => by
      refine .lst (sq_of (e _ _ w2)) (dps_at (by rw [List.length_map, List.length_map]; exact w3) fun j d hj => ?_)
      rw [List.getElem?_map] at hj
      obtain ⟨q, hq, rfl⟩ := Option.map_eq_some_iff.mp hj
      obtain ⟨t, ht, hg⟩ := w4 j q hq
      exact ⟨.ref t, by rw [List.getElem?_map, ht]; rfl, .tup (st_of (e _ _ hg)) (.cons (.int _) (.cons (.int _) .nil))⟩
    refine s_retD (ed_lst (ead_cons (ed_of (ev_is (ev_len (ev_var rfl) (sq_of w2)) (by rw [List.length_map, w3])) fun _ _ => .int _) (ead_cons ?_ ead_nil)) (by show 2 ≤ 100000; decide)) fun v G2 e2 hv => hQ v G2 (w1.trans e2) hv
    refine ed_if (b := !decide (W = [])) (et_test (ev_neDE (ed_of (ev_var rfl) hdp) (pairs_shaped W) (pairs_nil W))) (fun hb => ?_) (fun hb => ?_)
    · match W, w3, w4, hb with
      | q :: W', w3, w4, _ =>
        obtain ⟨t, ht, hg⟩ := w4 0 q rfl
        exact ed_of (ev_op (ev_var rfl) ev_c (rv_ixL (sq_of w2) (atI_nat (j := 0) (by rw [List.getElem?_map, ht]; rfl)))) fun G2 e => .tup (st_of (e _ _ hg)) (.cons (.int _) (.cons (.int _) .nil))
      | [], _, _, hb => exact absurd hb (by decide)
    · match W, hb with
      | [], _ => exact ed_of ev_c fun _ _ => .non
      | q :: W', hb => exact absurd hb (by simp)

end
def spR44 (K : PySem.W.Frag) : Sp := fun vs H Q _ => ∃ r n, vs = [.ref r] ∧ n < 2 ^ 50 ∧ Rng H r n ∧ ∀ H', Bu r H H' → Rng H' r (n + 40) → Q (.bl true) H'
section
variable {P : Program} {w : World} {K : PySem.W.Frag} {mg : Str → Option Value} {base : Heap} {f : Addr} {fd : FuncData}
theorem sc__law_right : FnScope ["pool", "book", "kept", "turn", "one", "two", "due", "told", "rank"] ["pool"] (defScope s__law_right) := ⟨rfl, rfl, rfl, by decide +kernel, rfl, by decide +kernel, by decide +kernel⟩
theorem ok__law_right (D : Df K mg "_law_right" s__law_right ["pool"] f fd) (ck : Cl P w K mg base 1 "_law_kinds" [] (PL (preNil vKINDS))) (c1 : Cl P w K mg base 1 "_law_draw" ["pool", "many"] spDraw) (ct : Cl P w K mg base 5 "_law_tried" ["book", "one", "two"] (PDt K (preM5 K)))
    (cw : Cl P w K mg base 5 "count_wrong" ["model", "first", "second"] (PV (preMKK K fun m k l => .int (m.cw k l)))) (cf : Cl P w K mg base 5 "first_wrong" ["model", "first", "second"] (PDt K (preMD K Md.fw)))
    (kw : Ck P w K mg base 5 "count_wrong" ["second", "first", "model"] gV3 (PV (preMKK K fun m k l => .int (m.cw k l)))) (kf : Ck P w K mg base 5 "first_wrong" ["second", "first", "model"] gV3 (PDt K (preMD K Md.fw)))
    (cra : mg "range" = none) (ctu : mg "tuple" = none) (cso : mg "sorted" = none) (cin : mg "int" = none) (crp : mg "repr" = none) : FnG P w K mg base CX0 6 f fd ["pool"] (spR44 K) := by
  refine df_ok D sc__law_right (fun vs H Q E h => by obtain ⟨r, n, rfl, _⟩ := h; rfl) (fun cdv A outer s H vs Q E hG hr h => ?_)
  obtain ⟨r, n, rfl, hn, g0, hQ⟩ := h
  have nd := sc__law_right.nd
  have hu : A.units + 3 + 64 < cLine := hr.units
  refine ⟨_, (pss_cons (ps_set (i := 1) nd rfl (.inl rfl) (pe_tup (pa_cons (pe_callTy call_tuple_of (by rfl) ctu (by decide +kernel) (pa_cons (pe_callB cr_sortedI (by rfl) cso (by decide +kernel) (pa_cons (pe_lc (own := [("rank", 8)]) (g := gName 8) (tt := tYes) rfl nd (pi_range1 (by rfl) cra (pa_cons pe_int pa_nil)) (blkOk_by (N := ["pool", "book", "kept", "turn", "one", "two", "due", "told", "rank"]) (sc := defScope s__law_right) (by decide +kernel)) (fun _ _ _ _ _ => pg_name (i := 8) nd rfl (Or.inl rfl)) (fun _ _ _ _ _ => pts_nil)
      (fun _ _ _ _ _ => pe_op op_add pe_int (pe_cl c1 hG hr rfl (pa_cons (pv 0) (pa_cons (pe_op op_sub pe_int (pe_callTy call_int1 (by rfl) cin (by decide +kernel) (pa_cons (pe_cmpR op_lt (pv 8) pe_int (nomark _)) pa_nil))) pa_nil))))) pa_nil)) pa_nil)) (pa_cons (pe_ix ix_str pe_str (pe_cl c1 hG hr rfl (pa_cons (pv 0) (pa_cons pe_int pa_nil))) (fun _ _ => rfl)) pa_nil)))) (pss_cons (ps_set (i := 2) nd rfl (.inl rfl) (pe_callB (call_repr hG hu) (by rfl) crp (by decide +kernel) (pa_cons (pv 1) pa_nil))) (pss_cons (ps_for PassesOwn.never rfl (pi_range1 (by rfl) cra (pa_cons pe_int pa_nil)) (pg_name (i := 3) nd rfl (.inl rfl)) (pss_cons (ps_par (i := 4) (j := 5) rfl nd rfl rfl (by decide) rfl rfl (pa_cons (pe_ix ix_list (pe_cl0 ck hG hr rfl) (pe_cl c1 hG hr rfl (pa_cons (pv 0) (pa_cons pe_int pa_nil))) (fun _ _ => rfl)) (pa_cons (pe_ix ix_list (pe_cl0 ck hG hr rfl) (pe_cl c1 hG hr rfl (pa_cons (pv 0) (pa_cons pe_int pa_nil))) (fun _ _ => rfl)) pa_nil)) (by rfl)) (pss_cons (ps_set (i := 6) nd rfl (.inl rfl) (pe_cl ct hG hr rfl (pa_cons (pv 1) (pa_cons (pv 4) (pa_cons (pv 5) pa_nil))))) (pss_cons (ps_set (i := 7) nd rfl (.inl rfl) (pe_lst (pa_cons (pe_cl cw hG hr rfl (pa_cons (pv 1) (pa_cons (pv 4) (pa_cons (pv 5) pa_nil)))) (pa_cons (pe_cl cf hG hr rfl (pa_cons (pv 1) (pa_cons (pv 4) (pa_cons (pv 5) pa_nil)))) pa_nil)))) (pss_cons (ps_if (PW.pt (pw_or (pt_cmpR op_ne (pe_callB (call_repr hG hu) (by rfl) crp (by decide +kernel) (pa_cons (pv 7) pa_nil)) (pe_callB (call_repr hG hu) (by rfl) crp (by decide +kernel) (pa_cons (pv 6) pa_nil)) (nomark _)) (pw_or1 (pt_cmpR op_ne (pe_callB (call_repr hG hu) (by rfl) crp (by decide +kernel) (pa_cons (pv 1) pa_nil)) (pv 2) (nomark _))))) (pss_one (ps_ret pe_bl)) pss_nil) (pss_cons (ps_set (i := 7) nd rfl (.inl rfl) (pe_lst (pa_cons (pe_ck kw hG hr rfl (pk_cons (pv 5) (pk_cons (pv 4) (pk_cons (pv 1) pk_nil)))) (pa_cons (pe_ck kf hG hr rfl (pk_cons (pv 5) (pk_cons (pv 4) (pk_cons (pv 1) pk_nil)))) pa_nil)))) (pss_one (ps_if (pt_cmpR op_ne (pe_callB (call_repr hG hu) (by rfl) crp (by decide +kernel) (pa_cons (pv 7) pa_nil)) (pe_callB (call_repr hG hu) (by rfl) crp (by decide +kernel) (pa_cons (pv 6) pa_nil)) (nomark _)) (pss_one (ps_ret pe_bl)) pss_nil)))))))) (pss_one (ps_ret pe_bl))))), ?_⟩
  refine q_raw (tup_raw (cons_raw (cb_raw (cons_raw (cb_raw (cons_raw (lcR_go (n := 5) (ea_cons ev_c ea_nil) (by decide) (fun D i G => ∃ G0, Ex H G0 ∧ GrW G0 r n 2 5 D i G) (fun D G0 e nD => ⟨G0, e, GrW.start (g0.ex e) nD⟩) (fun D i G hi hp => ?_) (fun D G hp => nil_raw ?_))))))))
  · obtain ⟨G0, e0, hp⟩ := hp
    have gi := hp.2.2.1
    refine ⟨rfl, yes_raw (iteT (op_raw ?_))⟩
    have hlim : ∀ {r2}, (∀ k : Bool, ∀ G Q, Q (.int (if k = true then 1 else 0)) G → r2 [.bl k] G Q) →
        Ev (tOp (rI0 fun i j => .int (i - j)) (tC (.int 4)) (tCB r2 (tCons (tOp (rI0 fun i j => .bl (decide (i < j))) (tVar 8) (tC (.int 3))) tNil))) [some (.ref r), none, none, none, none, none, none, none, some (.int (i : Nat))] G (.int (4 - (if decide ((i : Int) < 3) = true then 1 else 0))) := fun hr2 =>
      ev_op ev_c (ev_cb (ea_cons (ev_op (ev_var rfl) ev_c rv_I0) ea_nil) fun H5 e5 Q1 q1 => hr2 _ _ _ (q1 H5 (Ex.refl H5))) rv_I0
    refine draw_at (l := 4 - (if decide ((i : Int) < 3) = true then 1 else 0)) (n := n + i) (ea_cons (ev_var rfl) (ea_cons (hlim (fun k G Q q => .inr ⟨_, rfl, q⟩)) ea_nil)) (by split <;> omega) (log_small (by split <;> omega)) (by omega) gi fun H4 v b4 g4 v0 v1 => ?_
    refine ⟨_, _, rfl, rfl, ?_⟩
    have hv : 2 ≤ 2 + v ∧ 2 + v ≤ 5 := by
      revert v1
      split <;> omega
    obtain ⟨acc, a1, a2, a3⟩ := hp.step (g0.ex e0) b4 g4 hv (by omega)
    exact ⟨acc, a1, a2, G0, e0, a3⟩
  obtain ⟨G0, e0, nD, bu, gr, xs, hD, hl, hx⟩ := hp
  refine ⟨D, xs, rfl, sq_of hD, fun ns q hperm hpw nq => nil_raw ?_⟩
  have hns : W5 5 ns := W5.perm ⟨hl, hx⟩ hperm
  have eq1 : Ex G (upd G q (.lst (ns.map V.int))) := Ex.new nq
  have hq1 : (upd G q (.lst (ns.map V.int))) q = some (.lst (ns.map V.int)) := upd_same
  have bq : Bu r H (upd G q (.lst (ns.map V.int))) := ((Bu.of e0).trans bu).trans (Bu.of eq1)
  have gq := gr.ex eq1
  generalize upd G q (.lst (ns.map V.int)) = G1 at eq1 hq1 bq gq ⊢
  refine ⟨q, _, rfl, .inl ⟨sq_of hq1, fun u nu => ?_⟩⟩
  have eu : Ex G1 (upd G1 u (.tup (ns.map V.int))) := Ex.new nu
  have hu1 : (upd G1 u (.tup (ns.map V.int))) u = some (.tup (ns.map V.int)) := upd_same
  have gu := gq.ex eu
  generalize upd G1 u (.tup (ns.map V.int)) = G2 at eu hu1 gu ⊢
  refine cons_raw (su_draw (n := n + 5) gu (by omega) rfl fun G3 sg b3 g3 => nil_raw ⟨by show 2 ≤ sizeLine; decide, fun p np => ?_⟩)
  obtain ⟨m, ho, hmu, hw, h4⟩ := hns.md hpw (by decide) sg
  have hm := at_md (K := K) np (b3 _ _ (gu.ne_tup hu1) hu1) hmu hw
  have e4 : Ex G3 (upd G3 p (.tup [.ref u, .str (plS sg)])) := Ex.new np
  have bH : Bu r H (upd G3 p (.tup [.ref u, .str (plS sg)])) := ((bq.trans (Bu.of eu)).trans (b3.trans (Bu.of e4)))
  have gH := g3.ex e4
  generalize upd G3 p (.tup [.ref u, .str (plS sg)]) = H1 at hm e4 bH gH ⊢
  have h5 : m.w4 ≤ 5 := by omega
  dsimp only [gName, List.set]
  refine q_asg (ev_repr (ev_var rfl) hm.dp (Md.sm ho) (Nat.le_of_ble_eq_true rfl) (Nat.le_of_ble_eq_true rfl)) fun H2 e2 => ?_
  refine q_forR1 (n := 12) (ea_cons ev_c ea_nil) (by decide) (fun i σ G => Bu r H1 G ∧ Rng G r (n + 6 + 2 * i) ∧ ∃ y3 y4 y5 y6 y7, σ = [some (.ref r), some (.ref p), some (.str (PyData.shown (.tuple [.tuple (m.ns.map PyData.int), .str (plS m.u)]))), y3, y4, y5, y6, y7, none]) ?_ ?_ ?_
  · exact fun G e => ⟨Bu.of (e2.trans e), (gH.ex (e2.trans e)), none, none, none, none, none, rfl⟩
  · intro i σ G hi hp
    obtain ⟨bG, gG, y3, y4, y5, y6, y7, rfl⟩ := hp
    dsimp only [List.set]
    refine par_raw (cons_raw (kd_draw (n := n + 6 + 2 * i) gG (by omega) rfl fun G4 k b4 g4 => cons_raw (kd_draw (n := n + 6 + 2 * i + 1) g4 (by omega) rfl fun G5 l b5 g5 => nil_raw ⟨_, _, rfl, ?_⟩)))
    dsimp only [List.set]
    have b15 := (bG.trans b4).trans b5
    have hm5 := hm.bu b15 gH
    obtain ⟨s1, s2, s3⟩ := mixD_ok m ho k l
    refine q_asgD (d := mixD m k l) (ed_call (ea_cons (ev_var rfl) (ea_cons (ev_var rfl) (ea_cons (ev_var rfl) ea_nil))) fun G6 e6 => ⟨p, m, k, l, rfl, hm5.ex e6, ho, h5, rfl⟩) fun v6 G6 e6 hv6 => ?_
    have hm6 := hm5.ex e6
    refine q_asgD (d := mixD m k l) (ed_lst (ead_cons (ed_of (ev_call (ea_cons (ev_var rfl) (ea_cons (ev_var rfl) (ea_cons (ev_var rfl) ea_nil))) (spMKK hm6 ho)) fun _ _ => .int _) (ead_cons (ed_call (ea_cons (ev_var rfl) (ea_cons (ev_var rfl) (ea_cons (ev_var rfl) ea_nil))) fun G eg => ⟨p, m, k, l, rfl, hm6.ex eg, ho, rfl⟩) ead_nil)) (by show 2 ≤ 100000; decide)) fun v7 G7 e7 hv7 => ?_
    have hm7 := hm6.ex e7
    have same : ∀ {σ : L2.St} {G : Hp} {x y : V}, σ[7]? = some (some x) → σ[6]? = some (some y) → Dp K G x (mixD m k l) → Dp K G y (mixD m k l) → Ev (tOp rNe (tCB (rRepr K) (tCons (tVar 7) tNil)) (tCB (rRepr K) (tCons (tVar 6) tNil))) σ G (.bl false) := fun h7 h6 d7 d6 =>
      ev_is (ev_op (ev_reprD (ed_of (ev_var h7) fun G eg => dp_ex eg _ _ d7) s1 s2 s3) (ev_reprD (ed_of (ev_var h6) fun G eg => dp_ex eg _ _ d6) s1 s2 s3) (rv_ne rfl)) (by rw [decide_eq_true rfl]; rfl)
    refine q_when (b := false) (et_is (et_or (et_test (same rfl rfl hv7 (dp_ex e7 _ _ hv6))) fun _ => et_test (ev_pair (ev_repr (ev_var rfl) hm7.dp (Md.sm ho) (Nat.le_of_ble_eq_true rfl) (Nat.le_of_ble_eq_true rfl)) (ev_var rfl) rfl)) rfl) (fun z => nomatch z) (fun _ G8 e8 => ?_)
    have hm8 := hm7.ex e8
    refine q_asgD (d := mixD m k l) (ed_lst (ead_cons (ed_of (ev_kw (ea_cons (ev_var rfl) (ea_cons (ev_var rfl) (ea_cons (ev_var rfl) ea_nil))) rfl (spMKK (k := k) (l := l) hm8 ho)) fun _ _ => .int _) (ead_cons (ed_kw (ea_cons (ev_var rfl) (ea_cons (ev_var rfl) (ea_cons (ev_var rfl) ea_nil))) rfl fun G eg => ⟨p, m, k, l, rfl, hm8.ex eg, ho, rfl⟩) ead_nil)) (by show 2 ≤ 100000; decide)) fun v9 G9 e9 hv9 => ?_
    refine s_when (b := false) (et_test (same rfl rfl hv9 (dp_ex (e7.trans (e8.trans e9)) _ _ hv6))) (fun z => nomatch z) (fun _ G10 e10 => ?_)
    have e610 := e6.trans (e7.trans (e8.trans (e9.trans e10)))
    exact ⟨b15.trans (Bu.of e610), ((g5.ex e610).le (by omega)), _, _, _, _, _, rfl⟩
  · intro σ G hp
    obtain ⟨bG, gG, y3, y4, y5, y6, y7, rfl⟩ := hp
    exact s_ret ev_c fun H3 e3 => hQ H3 ((bH.trans bG).trans (Bu.of e3)) ((gG.ex e3).le (by omega))

theorem sc_law : FnScope ["script", "at", "pool", "turn", "book", "told"] ["script"] (defScope s_law) := ⟨rfl, rfl, rfl, by decide +kernel, rfl, by decide +kernel, by decide +kernel⟩
theorem ok_law (D : Df K mg "law" s_law ["script"] f fd) (cp : Cl P w K mg base 1 "_law_pool" ["script", "at"] (spPool K)) (cr : Cl P w K mg base 6 "_law_right" ["pool"] (spR44 K))
    (cw : Cl P w K mg base 5 "count_wrong" ["model", "first", "second"] (PV (preMKK K fun m k l => .int (m.cw k l)))) (cf : Cl P w K mg base 5 "first_wrong" ["model", "first", "second"] (PDt K (preMD K Md.fw)))
    (cra : mg "range" = none) (cmi : mg "min" = none) (cma : mg "max" = none) (cle : mg "len" = none) : FnG P w K mg base CX0 7 f fd ["script"] (spLaw K) := by
  refine df_ok D sc_law (fun vs H Q E h => by obtain ⟨a, ns, rfl, _⟩ := h; rfl) (fun cdv A outer s H vs Q E hG hr h => ?_)
  obtain ⟨a, ns, rfl, hS, hlen, hQ⟩ := h
  have nd := sc_law.nd
  have hu : A.units + 3 + 64 < cLine := hr.units
  refine ⟨_, (pss_cons (ps_for PassesOwn.never rfl (pi_range1 (by rfl) cra (pa_cons (pe_callB (call_max2 rfl) (by rfl) cma (by decide +kernel) (pa_cons pe_int (pa_cons (pe_callB (call_min2 rfl) (by rfl) cmi (by decide +kernel) (pa_cons pe_int (pa_cons (pe_callB call_len_seq (by rfl) cle PySem.boot_len (pa_cons (pv 0) pa_nil)) pa_nil))) pa_nil))) pa_nil)) (pg_name (i := 1) nd rfl (.inl rfl)) (pss_cons (ps_set (i := 2) nd rfl (.inl rfl) (pe_cl cp hG hr rfl (pa_cons (pv 0) (pa_cons (pv 1) pa_nil)))) (pss_one (ps_for PassesOwn.never rfl (pi_range1 (by rfl) cra (pa_cons pe_int pa_nil)) (pg_name (i := 3) nd rfl (.inl rfl)) (pss_one (ps_if (pt_not (pt_val (pe_cl cr hG hr rfl (pa_cons (pv 2) pa_nil)))) (pss_one (ps_ret pe_bl)) pss_nil)))))) (pss_cons (ps_set (i := 4) nd rfl (.inl rfl) (pe_tup (pa_cons (pe_tup (pa_cons pe_int (pa_cons pe_int (pa_cons pe_int (pa_cons pe_int (pa_cons pe_int pa_nil)))))) (pa_cons pe_str pa_nil)))) (pss_cons (ps_set (i := 5) nd rfl (.inl rfl) (pe_lst (pa_cons (pe_cl cw hG hr rfl (pa_cons (pv 4) (pa_cons pe_str (pa_cons pe_str pa_nil)))) (pa_cons (pe_cl cf hG hr rfl (pa_cons (pv 4) (pa_cons pe_str (pa_cons pe_str pa_nil)))) (pa_cons (pe_cl cw hG hr rfl (pa_cons (pv 4) (pa_cons pe_str (pa_cons pe_str pa_nil)))) pa_nil))))) (pss_one (ps_ret (pe_cmpR (op_eqD hu) (pe_op op_cat (pv 5) (pe_lst (pa_cons (pe_cl cw hG hr rfl (pa_cons (pv 4) (pa_cons pe_str (pa_cons pe_str pa_nil)))) pa_nil))) (pe_lst (pa_cons pe_int (pa_cons (pe_tup (pa_cons (pe_un un_neg pe_int) (pa_cons pe_int pa_nil))) (pa_cons pe_int (pa_cons pe_int pa_nil))))) (nomark _))))))), ?_⟩
  have hlen2 : (ns.map V.int).length = ns.length := List.length_map ..
  refine q_forR1 (n := (if (if (ns.length : Int) < 6 then (ns.length : Int) else 6) > 1 then (if (ns.length : Int) < 6 then (ns.length : Int) else 6) else 1)) (ea_cons (ev_cb (ea_cons ev_c (ea_cons (ev_cb (vs := [.int 6, .int ((ns.map V.int).length : Nat)]) (ea_cons ev_c (ea_cons (ev_cb (ea_cons (ev_var rfl) ea_nil) fun H2 e2 Q1 q1 => ⟨a, _, rfl, .inl (ex_l e2 hS), q1 H2 (Ex.refl H2)⟩) ea_nil))
      fun H2 e2 Q1 q1 => ⟨_, _, rfl, by rw [hlen2]; exact q1 H2 (Ex.refl H2)⟩) ea_nil)) fun H2 e2 Q1 q1 => ⟨_, _, rfl, q1 H2 (Ex.refl H2)⟩) ea_nil) (by split <;> (try split) <;> omega)
    (fun i σ G => Ex H G ∧ ∃ (y1 y2 y3 : Option V), σ = [some (.ref a), y1, y2, y3, none, none]) ?_ ?_ ?_
  · exact fun G e => ⟨e, none, none, none, rfl⟩
  · intro i σ G hi hp
    obtain ⟨eg, y1, y2, y3, rfl⟩ := hp
    have hi6 : i ≤ 6 := by
      split at hi <;> (try split at hi) <;> omega
    refine q_raw (ea_at (ev_var rfl) fun H2 e2 => cons_raw ⟨_, rfl, nil_raw ?_⟩)
    refine ⟨a, ns, i, rfl, ex_l (eg.trans e2) hS, hlen, by omega, fun r H3 n3 e3 g3 => ?_⟩
    dsimp only [List.set]
    have e03 := (eg.trans e2).trans e3
    refine s_forR1 (n := 2) (ea_cons ev_c ea_nil) (by decide) (fun j σ G4 => Bu r H3 G4 ∧ Rng G4 r (40 * j) ∧ ∃ y3, σ = [some (.ref a), some (.int (i : Nat)), some (.ref r), y3, none, none]) ?_ ?_ ?_
    · exact fun G4 e4 => ⟨Bu.of e4, g3.ex e4, y3, rfl⟩
    · intro j σ G4 hj hp4
      obtain ⟨b4, g4, z3, rfl⟩ := hp4
      dsimp only [List.set]
      refine if_raw (not_raw (B_raw (call_raw (cons_raw (var_raw rfl (nil_raw ⟨r, 40 * j, rfl, by omega, g4, fun G5 b5 g5 => ⟨true, rfl, iteF ?_⟩⟩))))))
      exact ⟨b4.trans b5, g5.le (by omega), _, rfl⟩
    · intro σ G4 hp4
      obtain ⟨b4, g4, z3, rfl⟩ := hp4
      refine ⟨fun c o hc => b4 c o (fun z => ?_) (e03 c o hc), _, _, _, rfl⟩
      rw [z] at hc
      rw [(eg.trans e2) _ _ hc] at n3
      exact nomatch n3
  · intro σ G hp
    obtain ⟨eg, y1, y2, y3, rfl⟩ := hp
    have hW : EvU (tTup (tCons (tC (.int 2)) (tCons (tC (.int 2)) (tCons (tC (.int 2)) (tCons (tC (.int 3)) (tCons (tC (.int 3)) tNil)))))) [some (.ref a), y1, y2, y3, none, none] G [.int 2, .int 2, .int 2, .int 3, .int 3] :=
      eu_tup (ea_cons ev_c (ea_cons ev_c (ea_cons ev_c (ea_cons ev_c (ea_cons ev_c ea_nil))))) (by decide)
    refine q_raw (tup_raw (ea_atU hW fun q H3 n3 e3 h3 => ea_at ev_c fun H4 e4 => ⟨by show 2 ≤ sizeLine; decide, fun p n5 => ?_⟩))
    have hm : AtM K (upd H4 p (.tup [.ref q, .str "s"])) p ⟨2, 2, 2, 3, 3, false⟩ := ⟨q, st_of upd_same, st_of (Ex.new n5 _ _ (e4 _ _ h3))⟩
    have ho : Md.Ok ⟨2, 2, 2, 3, 3, false⟩ := ⟨by decide, by decide, by decide, by decide, by decide, by decide⟩
    generalize upd H4 p (.tup [.ref q, .str "s"]) = H5 at hm ⊢
    dsimp only [List.set]
    have c1 : Md.cw ⟨2, 2, 2, 3, 3, false⟩ .it .ui = 7 := by decide +kernel
    have c2 : Md.cw ⟨2, 2, 2, 3, 3, false⟩ .ui .it = 5 := by decide +kernel
    have c3 : Md.cw ⟨2, 2, 2, 3, 3, false⟩ .ui .lo = 0 := by decide +kernel
    have s2 : Md.sgn ⟨2, 2, 2, 3, 3, false⟩ .it .ui = some .it := by decide +kernel
    have l2 : Md.low ⟨2, 2, 2, 3, 3, false⟩ .it = -2 := by decide +kernel
    have c4 : Md.fw ⟨2, 2, 2, 3, 3, false⟩ .it .ui = .tuple [.int (-2), .int 0] := by
      unfold Md.fw
      rw [s2]
      simp only [if_pos]
      rw [l2]
    have cwE : ∀ {σ : L2.St} {G : Hp} (k l : Kd), Ex H5 G → σ[4]? = some (some (.ref p)) → Ev (tCall (PV (preMKK K fun m k l => .int (m.cw k l))) [] E0 (tCons (tVar 4) (tCons (tC k.v) (tCons (tC l.v) tNil)))) σ G (.int (Md.cw ⟨2, 2, 2, 3, 3, false⟩ k l)) := fun k l e h4 => ev_call (ea_cons (ev_var h4) (ea_cons ev_c (ea_cons ev_c ea_nil))) (spMKK (hm.ex e) ho)
    refine q_raw (lst_raw (ea_at (cwE .it .ui (Ex.refl _) rfl) fun H6 e6 => cons_raw ((ed_call (K := K) (d := .tuple [.int (-2), .int 0]) (ea_cons (ev_var rfl) (ea_cons ev_c (ea_cons ev_c ea_nil))) fun G6 eg6 => ⟨p, _, .it, .ui, rfl, hm.ex (e6.trans eg6), ho, c4.symm⟩) H6 (Ex.refl H6) _ fun v7 H7 e7 hv7 => cons_raw ((cwE .ui .it (e6.trans e7) rfl) H7 (Ex.refl H7) _ fun H8 e8 => nil_raw ⟨by show 3 ≤ sizeLine; decide, fun t n9 => ?_⟩))))
    rw [c1, c2]
    have e9 : Ex H8 (upd H8 t (.lst [.int 7, v7, .int 5])) := Ex.new n9
    have h9 : (upd H8 t (.lst [.int 7, v7, .int 5])) t = some (.lst [.int 7, v7, .int 5]) := upd_same
    have hv9 := dp_ex (e8.trans e9) _ _ hv7
    generalize upd H8 t (.lst [.int 7, v7, .int 5]) = H9 at e9 h9 hv9 ⊢
    dsimp only [List.set]
    refine s_ret (ed_eq (d := .list [.int 7, .tuple [.int (-2), .int 0], .int 5, .int 0]) (e := .list [.int 7, .tuple [.int (-2), .int 0], .int 5, .int 0]) (fun G eG Q q => ?_) (ed_lst (ead_cons (ed_of ev_c fun _ _ => .int _) (ead_cons (ed_tup (ead_cons (ed_of (ev_un ev_c ru_neg) fun _ _ => .int _) (ead_cons (ed_of ev_c fun _ _ => .int _) ead_nil)) (by show 2 ≤ 100000; decide)) (ead_cons (ed_of ev_c fun _ _ => .int _) (ead_cons (ed_of ev_c fun _ _ => .int _) ead_nil)))) (by show 4 ≤ 100000; decide)) (by decide +kernel) (by decide +kernel) (by decide +kernel)) fun H6 e6 => hQ H6
    refine op_raw (var_raw rfl (lst_raw (ea_at (cwE .ui .lo ((e6.trans e7).trans ((e8.trans e9).trans eG)) rfl) fun G2 e2 => nil_raw ⟨by show 1 ≤ sizeLine; decide, fun t2 n2 => ?_⟩)))
    rw [c3]
    refine ⟨t, t2, _, _, rfl, rfl, Ex.new n2 _ _ (e2 _ _ (eG _ _ h9)), upd_same, by show 4 ≤ sizeLine; decide, fun t3 n3 => ?_⟩
    have ee : Ex G (upd (upd G2 t2 (.lst [.int 0])) t3 (.lst ([.int 7, v7, .int 5] ++ [.int 0]))) := e2.trans ((Ex.new n2).trans (Ex.new n3))
    exact q _ _ ee (.lst (sq_of upd_same) (.cons (.int _) (.cons (dp_ex (eG.trans ee) _ _ hv9) (.cons (.int _) (.cons (.int _) .nil)))))

end
theorem df_mk {K : PySem.W.Frag} {h : Heap} {mg : Str → Option Value} {x : Str} {st : Stmt} {ps : List Str} {f : Addr} {oc : Value} {od an : Option Addr} {sl : Array (Option Value)} {kV dc pm cd ct : Value} (X : K.In h) (G : h.Ns mainGlobals mg)
    (a : PySem.W.nsIn K mainGlobals x = some (some (.ref f))) (l : K.lookup f = some ⟨oc, od, .func (PySem.W.fnOf x x (defArgs st) (defBody st) (defScope st) .none kV dc pm an cd ct), sl⟩) (c : PySem.W.codeIn K cd x = true) (k : PySem.W.keepIn K (.ref f) = true)
    (hb : ∀ (kV doc pm : Value) (an : Option Addr) (cdv ct : Value) (us : List Value), us.length = ps.length → bindArgs (PySem.W.fnOf x x (defArgs st) (defBody st) (defScope st) .none kV doc pm an cdv ct) ⟨us, []⟩ = pure (ps.zip us)) :
    Df K mg x st ps f (PySem.W.fnOf x x (defArgs st) (defBody st) (defScope st) .none kV dc pm an cd ct) :=
  ⟨fun_mk l c k, PySem.W.mg_of X G a, (fun_mk l c k).binds hb⟩
theorem sqt_mk {K : PySem.W.Frag} {q : Addr} {od : Option Addr} {its : Array Value} {m : Nat} {sl : Array (Option Value)} {xs : List V} (l : K.lookup q = some ⟨.type "tuple", od, .seq its m, sl⟩) (v : Vals xs its.toList) (z : xs.length ≤ 1000) : ∀ H, SqT K H q xs := fun H => .inr ⟨_, its, m, l, rfl, rfl, by
    have e := v.length
    have s := sizeLine_eq
    have e2 : its.toList.length = its.size := Array.length_toList
    omega, v⟩
theorem ct_mk {K : PySem.W.Frag} {h : Heap} {mg : Str → Option Value} {x : Str} {xs : List V} {q : Addr} {od : Option Addr} {its : Array Value} {m : Nat} {sl : Array (Option Value)} (X : K.In h) (G : h.Ns mainGlobals mg)
    (a : PySem.W.nsIn K mainGlobals x = some (some (.ref q))) (l : K.lookup q = some ⟨.type "tuple", od, .seq its m, sl⟩) (v : Vals xs its.toList) (z : xs.length ≤ 1000) : CT K mg x xs := ⟨q, PySem.W.mg_of X G a, sqt_mk l v z⟩
theorem ci_mk {K : PySem.W.Frag} {h : Heap} {mg : Str → Option Value} {x : Str} {i : Int} {t : Tok} (X : K.In h) (G : h.Ns mainGlobals mg) (a : PySem.W.nsIn K mainGlobals x = some (some (.int i t))) : CI mg x i := ⟨t, PySem.W.mg_of X G a⟩

theorem all_mk {Pr : Program} {w : World} {K : PySem.W.Frag} {h : Heap} {mg : Str → Option Value} {fa : Addr} (X : K.In h) (G : h.Ns mainGlobals mg) (hfa : mg "law" = some (.ref fa))
    {f_bits_of : Addr} {oc_bits_of kV_bits_of dc_bits_of pm_bits_of cd_bits_of ct_bits_of : Value} {od_bits_of an_bits_of : Option Addr} {sl_bits_of : Array (Option Value)}
    {f_is_unsigned : Addr} {oc_is_unsigned kV_is_unsigned dc_is_unsigned pm_is_unsigned cd_is_unsigned ct_is_unsigned : Value} {od_is_unsigned an_is_unsigned : Option Addr} {sl_is_unsigned : Array (Option Value)}
    {f_limits_of : Addr} {oc_limits_of kV_limits_of dc_limits_of pm_limits_of cd_limits_of ct_limits_of : Value} {od_limits_of an_limits_of : Option Addr} {sl_limits_of : Array (Option Value)}
    {f_check_widths : Addr} {oc_check_widths kV_check_widths dc_check_widths pm_check_widths cd_check_widths ct_check_widths : Value} {od_check_widths an_check_widths : Option Addr} {sl_check_widths : Array (Option Value)}
    {f_check_model : Addr} {oc_check_model kV_check_model dc_check_model pm_check_model cd_check_model ct_check_model : Value} {od_check_model an_check_model : Option Addr} {sl_check_model : Array (Option Value)}
    {f_check_kind : Addr} {oc_check_kind kV_check_kind dc_check_kind pm_check_kind cd_check_kind ct_check_kind : Value} {od_check_kind an_check_kind : Option Addr} {sl_check_kind : Array (Option Value)}
    {f_promoted_kind : Addr} {oc_promoted_kind kV_promoted_kind dc_promoted_kind pm_promoted_kind cd_promoted_kind ct_promoted_kind : Value} {od_promoted_kind an_promoted_kind : Option Addr} {sl_promoted_kind : Array (Option Value)}
    {f_common_of_mixed : Addr} {oc_common_of_mixed kV_common_of_mixed dc_common_of_mixed pm_common_of_mixed cd_common_of_mixed ct_common_of_mixed : Value} {od_common_of_mixed an_common_of_mixed : Option Addr} {sl_common_of_mixed : Array (Option Value)}
    {f_common_kind : Addr} {oc_common_kind kV_common_kind dc_common_kind pm_common_kind cd_common_kind ct_common_kind : Value} {od_common_kind an_common_kind : Option Addr} {sl_common_kind : Array (Option Value)}
    {f_checked_signed_one : Addr} {oc_checked_signed_one kV_checked_signed_one dc_checked_signed_one pm_checked_signed_one cd_checked_signed_one ct_checked_signed_one : Value} {od_checked_signed_one an_checked_signed_one : Option Addr} {sl_checked_signed_one : Array (Option Value)}
    {f_count_wrong : Addr} {oc_count_wrong kV_count_wrong dc_count_wrong pm_count_wrong cd_count_wrong ct_count_wrong : Value} {od_count_wrong an_count_wrong : Option Addr} {sl_count_wrong : Array (Option Value)}
    {f_first_wrong : Addr} {oc_first_wrong kV_first_wrong dc_first_wrong pm_first_wrong cd_first_wrong ct_first_wrong : Value} {od_first_wrong an_first_wrong : Option Addr} {sl_first_wrong : Array (Option Value)}
    {f_law_pool : Addr} {oc_law_pool kV_law_pool dc_law_pool pm_law_pool cd_law_pool ct_law_pool : Value} {od_law_pool an_law_pool : Option Addr} {sl_law_pool : Array (Option Value)}
    {f_law_draw : Addr} {oc_law_draw kV_law_draw dc_law_draw pm_law_draw cd_law_draw ct_law_draw : Value} {od_law_draw an_law_draw : Option Addr} {sl_law_draw : Array (Option Value)}
    {f_law_kinds : Addr} {oc_law_kinds kV_law_kinds dc_law_kinds pm_law_kinds cd_law_kinds ct_law_kinds : Value} {od_law_kinds an_law_kinds : Option Addr} {sl_law_kinds : Array (Option Value)}
    {f_law_bits : Addr} {oc_law_bits kV_law_bits dc_law_bits pm_law_bits cd_law_bits ct_law_bits : Value} {od_law_bits an_law_bits : Option Addr} {sl_law_bits : Array (Option Value)}
    {f_law_is_unsigned : Addr} {oc_law_is_unsigned kV_law_is_unsigned dc_law_is_unsigned pm_law_is_unsigned cd_law_is_unsigned ct_law_is_unsigned : Value} {od_law_is_unsigned an_law_is_unsigned : Option Addr} {sl_law_is_unsigned : Array (Option Value)}
    {f_law_ends : Addr} {oc_law_ends kV_law_ends dc_law_ends pm_law_ends cd_law_ends ct_law_ends : Value} {od_law_ends an_law_ends : Option Addr} {sl_law_ends : Array (Option Value)}
    {f_law_common : Addr} {oc_law_common kV_law_common dc_law_common pm_law_common cd_law_common ct_law_common : Value} {od_law_common an_law_common : Option Addr} {sl_law_common : Array (Option Value)}
    {f_law_into : Addr} {oc_law_into kV_law_into dc_law_into pm_law_into cd_law_into ct_law_into : Value} {od_law_into an_law_into : Option Addr} {sl_law_into : Array (Option Value)}
    {f_law_tried : Addr} {oc_law_tried kV_law_tried dc_law_tried pm_law_tried cd_law_tried ct_law_tried : Value} {od_law_tried an_law_tried : Option Addr} {sl_law_tried : Array (Option Value)}
    {f_law_right : Addr} {oc_law_right kV_law_right dc_law_right pm_law_right cd_law_right ct_law_right : Value} {od_law_right an_law_right : Option Addr} {sl_law_right : Array (Option Value)}
    {f_law : Addr} {oc_law kV_law dc_law pm_law cd_law ct_law : Value} {od_law an_law : Option Addr} {sl_law : Array (Option Value)}
    {qKINDS : Addr} {qdKINDS : Option Addr} {itsKINDS : Array Value} {qmKINDS : Nat} {qsKINDS : Array (Option Value)}
    {qSIGNED : Addr} {qdSIGNED : Option Addr} {itsSIGNED : Array Value} {qmSIGNED : Nat} {qsSIGNED : Array (Option Value)}
    {qUNSIGNED : Addr} {qdUNSIGNED : Option Addr} {itsUNSIGNED : Array Value} {qmUNSIGNED : Nat} {qsUNSIGNED : Array (Option Value)}
    {qPLAIN_SIGNS : Addr} {qdPLAIN_SIGNS : Option Addr} {itsPLAIN_SIGNS : Array Value} {qmPLAIN_SIGNS : Nat} {qsPLAIN_SIGNS : Array (Option Value)}
    {tILEAST_WIDTH : Tok}
    {tIGREATEST_WIDTH : Tok}
    {tIINT_RANK : Tok}
    {qR : Addr} {esR : Array DictEntry} {nR : Nat}
    {tR0 : Tok}
    {tR1 : Tok}
    {tR2 : Tok}
    {tR3 : Tok}
    {tR4 : Tok}
    {tR5 : Tok}
    {tR6 : Tok}
    {tR7 : Tok}
    {tR8 : Tok}
    {tR9 : Tok}
    {tR10 : Tok}
    (a_bits_of : PySem.W.nsIn K mainGlobals "bits_of" = some (some (.ref f_bits_of)))
    (l_bits_of : K.lookup f_bits_of = some ⟨oc_bits_of, od_bits_of, .func (PySem.W.fnOf "bits_of" "bits_of" (defArgs s_bits_of) (defBody s_bits_of) (defScope s_bits_of) .none kV_bits_of dc_bits_of pm_bits_of an_bits_of cd_bits_of ct_bits_of), sl_bits_of⟩)
    (c_bits_of : PySem.W.codeIn K cd_bits_of "bits_of" = true)
    (k_bits_of : PySem.W.keepIn K (.ref f_bits_of) = true)
    (a_is_unsigned : PySem.W.nsIn K mainGlobals "is_unsigned" = some (some (.ref f_is_unsigned)))
    (l_is_unsigned : K.lookup f_is_unsigned = some ⟨oc_is_unsigned, od_is_unsigned, .func (PySem.W.fnOf "is_unsigned" "is_unsigned" (defArgs s_is_unsigned) (defBody s_is_unsigned) (defScope s_is_unsigned) .none kV_is_unsigned dc_is_unsigned pm_is_unsigned an_is_unsigned cd_is_unsigned ct_is_unsigned), sl_is_unsigned⟩)
    (c_is_unsigned : PySem.W.codeIn K cd_is_unsigned "is_unsigned" = true)
    (k_is_unsigned : PySem.W.keepIn K (.ref f_is_unsigned) = true)
    (a_limits_of : PySem.W.nsIn K mainGlobals "limits_of" = some (some (.ref f_limits_of)))
    (l_limits_of : K.lookup f_limits_of = some ⟨oc_limits_of, od_limits_of, .func (PySem.W.fnOf "limits_of" "limits_of" (defArgs s_limits_of) (defBody s_limits_of) (defScope s_limits_of) .none kV_limits_of dc_limits_of pm_limits_of an_limits_of cd_limits_of ct_limits_of), sl_limits_of⟩)
    (c_limits_of : PySem.W.codeIn K cd_limits_of "limits_of" = true)
    (k_limits_of : PySem.W.keepIn K (.ref f_limits_of) = true)
    (a_check_widths : PySem.W.nsIn K mainGlobals "check_widths" = some (some (.ref f_check_widths)))
    (l_check_widths : K.lookup f_check_widths = some ⟨oc_check_widths, od_check_widths, .func (PySem.W.fnOf "check_widths" "check_widths" (defArgs s_check_widths) (defBody s_check_widths) (defScope s_check_widths) .none kV_check_widths dc_check_widths pm_check_widths an_check_widths cd_check_widths ct_check_widths), sl_check_widths⟩)
    (c_check_widths : PySem.W.codeIn K cd_check_widths "check_widths" = true)
    (k_check_widths : PySem.W.keepIn K (.ref f_check_widths) = true)
    (a_check_model : PySem.W.nsIn K mainGlobals "check_model" = some (some (.ref f_check_model)))
    (l_check_model : K.lookup f_check_model = some ⟨oc_check_model, od_check_model, .func (PySem.W.fnOf "check_model" "check_model" (defArgs s_check_model) (defBody s_check_model) (defScope s_check_model) .none kV_check_model dc_check_model pm_check_model an_check_model cd_check_model ct_check_model), sl_check_model⟩)
    (c_check_model : PySem.W.codeIn K cd_check_model "check_model" = true)
    (k_check_model : PySem.W.keepIn K (.ref f_check_model) = true)
    (a_check_kind : PySem.W.nsIn K mainGlobals "check_kind" = some (some (.ref f_check_kind)))
    (l_check_kind : K.lookup f_check_kind = some ⟨oc_check_kind, od_check_kind, .func (PySem.W.fnOf "check_kind" "check_kind" (defArgs s_check_kind) (defBody s_check_kind) (defScope s_check_kind) .none kV_check_kind dc_check_kind pm_check_kind an_check_kind cd_check_kind ct_check_kind), sl_check_kind⟩)
    (c_check_kind : PySem.W.codeIn K cd_check_kind "check_kind" = true)
    (k_check_kind : PySem.W.keepIn K (.ref f_check_kind) = true)
    (a_promoted_kind : PySem.W.nsIn K mainGlobals "promoted_kind" = some (some (.ref f_promoted_kind)))
    (l_promoted_kind : K.lookup f_promoted_kind = some ⟨oc_promoted_kind, od_promoted_kind, .func (PySem.W.fnOf "promoted_kind" "promoted_kind" (defArgs s_promoted_kind) (defBody s_promoted_kind) (defScope s_promoted_kind) .none kV_promoted_kind dc_promoted_kind pm_promoted_kind an_promoted_kind cd_promoted_kind ct_promoted_kind), sl_promoted_kind⟩)
    (c_promoted_kind : PySem.W.codeIn K cd_promoted_kind "promoted_kind" = true)
    (k_promoted_kind : PySem.W.keepIn K (.ref f_promoted_kind) = true)
    (a_common_of_mixed : PySem.W.nsIn K mainGlobals "_common_of_mixed" = some (some (.ref f_common_of_mixed)))
    (l_common_of_mixed : K.lookup f_common_of_mixed = some ⟨oc_common_of_mixed, od_common_of_mixed, .func (PySem.W.fnOf "_common_of_mixed" "_common_of_mixed" (defArgs s__common_of_mixed) (defBody s__common_of_mixed) (defScope s__common_of_mixed) .none kV_common_of_mixed dc_common_of_mixed pm_common_of_mixed an_common_of_mixed cd_common_of_mixed ct_common_of_mixed), sl_common_of_mixed⟩)
    (c_common_of_mixed : PySem.W.codeIn K cd_common_of_mixed "_common_of_mixed" = true)
    (k_common_of_mixed : PySem.W.keepIn K (.ref f_common_of_mixed) = true)
    (a_common_kind : PySem.W.nsIn K mainGlobals "common_kind" = some (some (.ref f_common_kind)))
    (l_common_kind : K.lookup f_common_kind = some ⟨oc_common_kind, od_common_kind, .func (PySem.W.fnOf "common_kind" "common_kind" (defArgs s_common_kind) (defBody s_common_kind) (defScope s_common_kind) .none kV_common_kind dc_common_kind pm_common_kind an_common_kind cd_common_kind ct_common_kind), sl_common_kind⟩)
    (c_common_kind : PySem.W.codeIn K cd_common_kind "common_kind" = true)
    (k_common_kind : PySem.W.keepIn K (.ref f_common_kind) = true)
    (a_checked_signed_one : PySem.W.nsIn K mainGlobals "_checked_signed_one" = some (some (.ref f_checked_signed_one)))
    (l_checked_signed_one : K.lookup f_checked_signed_one = some ⟨oc_checked_signed_one, od_checked_signed_one, .func (PySem.W.fnOf "_checked_signed_one" "_checked_signed_one" (defArgs s__checked_signed_one) (defBody s__checked_signed_one) (defScope s__checked_signed_one) .none kV_checked_signed_one dc_checked_signed_one pm_checked_signed_one an_checked_signed_one cd_checked_signed_one ct_checked_signed_one), sl_checked_signed_one⟩)
    (c_checked_signed_one : PySem.W.codeIn K cd_checked_signed_one "_checked_signed_one" = true)
    (k_checked_signed_one : PySem.W.keepIn K (.ref f_checked_signed_one) = true)
    (a_count_wrong : PySem.W.nsIn K mainGlobals "count_wrong" = some (some (.ref f_count_wrong)))
    (l_count_wrong : K.lookup f_count_wrong = some ⟨oc_count_wrong, od_count_wrong, .func (PySem.W.fnOf "count_wrong" "count_wrong" (defArgs s_count_wrong) (defBody s_count_wrong) (defScope s_count_wrong) .none kV_count_wrong dc_count_wrong pm_count_wrong an_count_wrong cd_count_wrong ct_count_wrong), sl_count_wrong⟩)
    (c_count_wrong : PySem.W.codeIn K cd_count_wrong "count_wrong" = true)
    (k_count_wrong : PySem.W.keepIn K (.ref f_count_wrong) = true)
    (a_first_wrong : PySem.W.nsIn K mainGlobals "first_wrong" = some (some (.ref f_first_wrong)))
    (l_first_wrong : K.lookup f_first_wrong = some ⟨oc_first_wrong, od_first_wrong, .func (PySem.W.fnOf "first_wrong" "first_wrong" (defArgs s_first_wrong) (defBody s_first_wrong) (defScope s_first_wrong) .none kV_first_wrong dc_first_wrong pm_first_wrong an_first_wrong cd_first_wrong ct_first_wrong), sl_first_wrong⟩)
    (c_first_wrong : PySem.W.codeIn K cd_first_wrong "first_wrong" = true)
    (k_first_wrong : PySem.W.keepIn K (.ref f_first_wrong) = true)
    (a_law_pool : PySem.W.nsIn K mainGlobals "_law_pool" = some (some (.ref f_law_pool)))
    (l_law_pool : K.lookup f_law_pool = some ⟨oc_law_pool, od_law_pool, .func (PySem.W.fnOf "_law_pool" "_law_pool" (defArgs s__law_pool) (defBody s__law_pool) (defScope s__law_pool) .none kV_law_pool dc_law_pool pm_law_pool an_law_pool cd_law_pool ct_law_pool), sl_law_pool⟩)
    (c_law_pool : PySem.W.codeIn K cd_law_pool "_law_pool" = true)
    (k_law_pool : PySem.W.keepIn K (.ref f_law_pool) = true)
    (a_law_draw : PySem.W.nsIn K mainGlobals "_law_draw" = some (some (.ref f_law_draw)))
    (l_law_draw : K.lookup f_law_draw = some ⟨oc_law_draw, od_law_draw, .func (PySem.W.fnOf "_law_draw" "_law_draw" (defArgs s__law_draw) (defBody s__law_draw) (defScope s__law_draw) .none kV_law_draw dc_law_draw pm_law_draw an_law_draw cd_law_draw ct_law_draw), sl_law_draw⟩)
    (c_law_draw : PySem.W.codeIn K cd_law_draw "_law_draw" = true)
    (k_law_draw : PySem.W.keepIn K (.ref f_law_draw) = true)
    (a_law_kinds : PySem.W.nsIn K mainGlobals "_law_kinds" = some (some (.ref f_law_kinds)))
    (l_law_kinds : K.lookup f_law_kinds = some ⟨oc_law_kinds, od_law_kinds, .func (PySem.W.fnOf "_law_kinds" "_law_kinds" (defArgs s__law_kinds) (defBody s__law_kinds) (defScope s__law_kinds) .none kV_law_kinds dc_law_kinds pm_law_kinds an_law_kinds cd_law_kinds ct_law_kinds), sl_law_kinds⟩)
    (c_law_kinds : PySem.W.codeIn K cd_law_kinds "_law_kinds" = true)
    (k_law_kinds : PySem.W.keepIn K (.ref f_law_kinds) = true)
    (a_law_bits : PySem.W.nsIn K mainGlobals "_law_bits" = some (some (.ref f_law_bits)))
    (l_law_bits : K.lookup f_law_bits = some ⟨oc_law_bits, od_law_bits, .func (PySem.W.fnOf "_law_bits" "_law_bits" (defArgs s__law_bits) (defBody s__law_bits) (defScope s__law_bits) .none kV_law_bits dc_law_bits pm_law_bits an_law_bits cd_law_bits ct_law_bits), sl_law_bits⟩)
    (c_law_bits : PySem.W.codeIn K cd_law_bits "_law_bits" = true)
    (k_law_bits : PySem.W.keepIn K (.ref f_law_bits) = true)
    (a_law_is_unsigned : PySem.W.nsIn K mainGlobals "_law_is_unsigned" = some (some (.ref f_law_is_unsigned)))
    (l_law_is_unsigned : K.lookup f_law_is_unsigned = some ⟨oc_law_is_unsigned, od_law_is_unsigned, .func (PySem.W.fnOf "_law_is_unsigned" "_law_is_unsigned" (defArgs s__law_is_unsigned) (defBody s__law_is_unsigned) (defScope s__law_is_unsigned) .none kV_law_is_unsigned dc_law_is_unsigned pm_law_is_unsigned an_law_is_unsigned cd_law_is_unsigned ct_law_is_unsigned), sl_law_is_unsigned⟩)
    (c_law_is_unsigned : PySem.W.codeIn K cd_law_is_unsigned "_law_is_unsigned" = true)
    (k_law_is_unsigned : PySem.W.keepIn K (.ref f_law_is_unsigned) = true)
    (a_law_ends : PySem.W.nsIn K mainGlobals "_law_ends" = some (some (.ref f_law_ends)))
    (l_law_ends : K.lookup f_law_ends = some ⟨oc_law_ends, od_law_ends, .func (PySem.W.fnOf "_law_ends" "_law_ends" (defArgs s__law_ends) (defBody s__law_ends) (defScope s__law_ends) .none kV_law_ends dc_law_ends pm_law_ends an_law_ends cd_law_ends ct_law_ends), sl_law_ends⟩)
    (c_law_ends : PySem.W.codeIn K cd_law_ends "_law_ends" = true)
    (k_law_ends : PySem.W.keepIn K (.ref f_law_ends) = true)
    (a_law_common : PySem.W.nsIn K mainGlobals "_law_common" = some (some (.ref f_law_common)))
    (l_law_common : K.lookup f_law_common = some ⟨oc_law_common, od_law_common, .func (PySem.W.fnOf "_law_common" "_law_common" (defArgs s__law_common) (defBody s__law_common) (defScope s__law_common) .none kV_law_common dc_law_common pm_law_common an_law_common cd_law_common ct_law_common), sl_law_common⟩)
    (c_law_common : PySem.W.codeIn K cd_law_common "_law_common" = true)
    (k_law_common : PySem.W.keepIn K (.ref f_law_common) = true)
    (a_law_into : PySem.W.nsIn K mainGlobals "_law_into" = some (some (.ref f_law_into)))
    (l_law_into : K.lookup f_law_into = some ⟨oc_law_into, od_law_into, .func (PySem.W.fnOf "_law_into" "_law_into" (defArgs s__law_into) (defBody s__law_into) (defScope s__law_into) .none kV_law_into dc_law_into pm_law_into an_law_into cd_law_into ct_law_into), sl_law_into⟩)
    (c_law_into : PySem.W.codeIn K cd_law_into "_law_into" = true)
    (k_law_into : PySem.W.keepIn K (.ref f_law_into) = true)
    (a_law_tried : PySem.W.nsIn K mainGlobals "_law_tried" = some (some (.ref f_law_tried)))
    (l_law_tried : K.lookup f_law_tried = some ⟨oc_law_tried, od_law_tried, .func (PySem.W.fnOf "_law_tried" "_law_tried" (defArgs s__law_tried) (defBody s__law_tried) (defScope s__law_tried) .none kV_law_tried dc_law_tried pm_law_tried an_law_tried cd_law_tried ct_law_tried), sl_law_tried⟩)
    (c_law_tried : PySem.W.codeIn K cd_law_tried "_law_tried" = true)
    (k_law_tried : PySem.W.keepIn K (.ref f_law_tried) = true)
    (a_law_right : PySem.W.nsIn K mainGlobals "_law_right" = some (some (.ref f_law_right)))
    (l_law_right : K.lookup f_law_right = some ⟨oc_law_right, od_law_right, .func (PySem.W.fnOf "_law_right" "_law_right" (defArgs s__law_right) (defBody s__law_right) (defScope s__law_right) .none kV_law_right dc_law_right pm_law_right an_law_right cd_law_right ct_law_right), sl_law_right⟩)
    (c_law_right : PySem.W.codeIn K cd_law_right "_law_right" = true)
    (k_law_right : PySem.W.keepIn K (.ref f_law_right) = true)
    (a_law : PySem.W.nsIn K mainGlobals "law" = some (some (.ref f_law)))
    (l_law : K.lookup f_law = some ⟨oc_law, od_law, .func (PySem.W.fnOf "law" "law" (defArgs s_law) (defBody s_law) (defScope s_law) .none kV_law dc_law pm_law an_law cd_law ct_law), sl_law⟩)
    (c_law : PySem.W.codeIn K cd_law "law" = true)
    (k_law : PySem.W.keepIn K (.ref f_law) = true)
    (taKINDS : PySem.W.nsIn K mainGlobals "KINDS" = some (some (.ref qKINDS)))
    (tlKINDS : K.lookup qKINDS = some ⟨.type "tuple", qdKINDS, .seq itsKINDS qmKINDS, qsKINDS⟩)
    (tvKINDS : Vals vKINDS itsKINDS.toList)
    (taSIGNED : PySem.W.nsIn K mainGlobals "SIGNED" = some (some (.ref qSIGNED)))
    (tlSIGNED : K.lookup qSIGNED = some ⟨.type "tuple", qdSIGNED, .seq itsSIGNED qmSIGNED, qsSIGNED⟩)
    (tvSIGNED : Vals vSIGNED itsSIGNED.toList)
    (taUNSIGNED : PySem.W.nsIn K mainGlobals "UNSIGNED" = some (some (.ref qUNSIGNED)))
    (tlUNSIGNED : K.lookup qUNSIGNED = some ⟨.type "tuple", qdUNSIGNED, .seq itsUNSIGNED qmUNSIGNED, qsUNSIGNED⟩)
    (tvUNSIGNED : Vals vUNSIGNED itsUNSIGNED.toList)
    (taPLAIN_SIGNS : PySem.W.nsIn K mainGlobals "PLAIN_SIGNS" = some (some (.ref qPLAIN_SIGNS)))
    (tlPLAIN_SIGNS : K.lookup qPLAIN_SIGNS = some ⟨.type "tuple", qdPLAIN_SIGNS, .seq itsPLAIN_SIGNS qmPLAIN_SIGNS, qsPLAIN_SIGNS⟩)
    (tvPLAIN_SIGNS : Vals vPLAIN itsPLAIN_SIGNS.toList)
    (iaLEAST_WIDTH : PySem.W.nsIn K mainGlobals "LEAST_WIDTH" = some (some (.int 2 tILEAST_WIDTH)))
    (iaGREATEST_WIDTH : PySem.W.nsIn K mainGlobals "GREATEST_WIDTH" = some (some (.int 128 tIGREATEST_WIDTH)))
    (iaINT_RANK : PySem.W.nsIn K mainGlobals "INT_RANK" = some (some (.int 2 tIINT_RANK)))
    (ra : PySem.W.nsIn K mainGlobals "RANKS" = some (some (.ref qR)))
    (rl : K.lookup qR = some ⟨.type "dict", none, .dict esR nR, #[]⟩)
    (rk : PySem.W.KeysLit w.params esR.toList)
    (r0 : PySem.W.nsIn K qR "char" = some (some (.int 0 tR0)))
    (r1 : PySem.W.nsIn K qR "schar" = some (some (.int 0 tR1)))
    (r2 : PySem.W.nsIn K qR "uchar" = some (some (.int 0 tR2)))
    (r3 : PySem.W.nsIn K qR "short" = some (some (.int 1 tR3)))
    (r4 : PySem.W.nsIn K qR "ushort" = some (some (.int 1 tR4)))
    (r5 : PySem.W.nsIn K qR "int" = some (some (.int 2 tR5)))
    (r6 : PySem.W.nsIn K qR "uint" = some (some (.int 2 tR6)))
    (r7 : PySem.W.nsIn K qR "long" = some (some (.int 3 tR7)))
    (r8 : PySem.W.nsIn K qR "ulong" = some (some (.int 3 tR8)))
    (r9 : PySem.W.nsIn K qR "wide" = some (some (.int 4 tR9)))
    (r10 : PySem.W.nsIn K qR "uwide" = some (some (.int 4 tR10)))
    (z_len : PySem.W.nsIn K mainGlobals "len" = some none)
    (z_enumerate : PySem.W.nsIn K mainGlobals "enumerate" = some none)
    (z_abs : PySem.W.nsIn K mainGlobals "abs" = some none)
    (z_range : PySem.W.nsIn K mainGlobals "range" = some none)
    (z_min : PySem.W.nsIn K mainGlobals "min" = some none)
    (z_max : PySem.W.nsIn K mainGlobals "max" = some none)
    (z_tuple : PySem.W.nsIn K mainGlobals "tuple" = some none)
    (z_int : PySem.W.nsIn K mainGlobals "int" = some none)
    (z_sorted : PySem.W.nsIn K mainGlobals "sorted" = some none)
    (z_repr : PySem.W.nsIn K mainGlobals "repr" = some none) :
    ∃ fd : FuncData, (∀ (s : Shared) (u : Value), BindsTo s fd ⟨[u], []⟩ [("script", u)]) ∧ ∀ base : Heap, K.In base → base.Ns mainGlobals mg → FnG Pr w K mg base CX0 7 fa fd ["script"] (spLaw K) := by
  have e := hfa.symm.trans (PySem.W.mg_of X G a_law)
  cases e
  have D_bits_of := df_mk (st := s_bits_of) (ps := ["model", "kind"]) X G a_bits_of l_bits_of c_bits_of k_bits_of fun _ _ _ _ _ _ us hl => match us, hl with | [_, _], _ => rfl
  have D_is_unsigned := df_mk (st := s_is_unsigned) (ps := ["model", "kind"]) X G a_is_unsigned l_is_unsigned c_is_unsigned k_is_unsigned fun _ _ _ _ _ _ us hl => match us, hl with | [_, _], _ => rfl
  have D_limits_of := df_mk (st := s_limits_of) (ps := ["model", "kind"]) X G a_limits_of l_limits_of c_limits_of k_limits_of fun _ _ _ _ _ _ us hl => match us, hl with | [_, _], _ => rfl
  have D_check_widths := df_mk (st := s_check_widths) (ps := ["widths"]) X G a_check_widths l_check_widths c_check_widths k_check_widths fun _ _ _ _ _ _ us hl => match us, hl with | [_], _ => rfl
  have D_check_model := df_mk (st := s_check_model) (ps := ["model"]) X G a_check_model l_check_model c_check_model k_check_model fun _ _ _ _ _ _ us hl => match us, hl with | [_], _ => rfl
  have D_check_kind := df_mk (st := s_check_kind) (ps := ["kind"]) X G a_check_kind l_check_kind c_check_kind k_check_kind fun _ _ _ _ _ _ us hl => match us, hl with | [_], _ => rfl
  have D_promoted_kind := df_mk (st := s_promoted_kind) (ps := ["model", "kind"]) X G a_promoted_kind l_promoted_kind c_promoted_kind k_promoted_kind fun _ _ _ _ _ _ us hl => match us, hl with | [_, _], _ => rfl
  have D_common_of_mixed := df_mk (st := s__common_of_mixed) (ps := ["model", "unsigned", "signed"]) X G a_common_of_mixed l_common_of_mixed c_common_of_mixed k_common_of_mixed fun _ _ _ _ _ _ us hl => match us, hl with | [_, _, _], _ => rfl
  have D_common_kind := df_mk (st := s_common_kind) (ps := ["model", "first", "second"]) X G a_common_kind l_common_kind c_common_kind k_common_kind fun _ _ _ _ _ _ us hl => match us, hl with | [_, _, _], _ => rfl
  have D_checked_signed_one := df_mk (st := s__checked_signed_one) (ps := ["model", "first", "second"]) X G a_checked_signed_one l_checked_signed_one c_checked_signed_one k_checked_signed_one fun _ _ _ _ _ _ us hl => match us, hl with | [_, _, _], _ => rfl
  have D_count_wrong := df_mk (st := s_count_wrong) (ps := ["model", "first", "second"]) X G a_count_wrong l_count_wrong c_count_wrong k_count_wrong fun _ _ _ _ _ _ us hl => match us, hl with | [_, _, _], _ => rfl
  have D_first_wrong := df_mk (st := s_first_wrong) (ps := ["model", "first", "second"]) X G a_first_wrong l_first_wrong c_first_wrong k_first_wrong fun _ _ _ _ _ _ us hl => match us, hl with | [_, _, _], _ => rfl
  have D_law_pool := df_mk (st := s__law_pool) (ps := ["script", "at"]) X G a_law_pool l_law_pool c_law_pool k_law_pool fun _ _ _ _ _ _ us hl => match us, hl with | [_, _], _ => rfl
  have D_law_draw := df_mk (st := s__law_draw) (ps := ["pool", "many"]) X G a_law_draw l_law_draw c_law_draw k_law_draw fun _ _ _ _ _ _ us hl => match us, hl with | [_, _], _ => rfl
  have D_law_kinds := df_mk (st := s__law_kinds) (ps := []) X G a_law_kinds l_law_kinds c_law_kinds k_law_kinds fun _ _ _ _ _ _ us hl => match us, hl with | [], _ => rfl
  have D_law_bits := df_mk (st := s__law_bits) (ps := ["book", "kind"]) X G a_law_bits l_law_bits c_law_bits k_law_bits fun _ _ _ _ _ _ us hl => match us, hl with | [_, _], _ => rfl
  have D_law_is_unsigned := df_mk (st := s__law_is_unsigned) (ps := ["book", "kind"]) X G a_law_is_unsigned l_law_is_unsigned c_law_is_unsigned k_law_is_unsigned fun _ _ _ _ _ _ us hl => match us, hl with | [_, _], _ => rfl
  have D_law_ends := df_mk (st := s__law_ends) (ps := ["book", "kind"]) X G a_law_ends l_law_ends c_law_ends k_law_ends fun _ _ _ _ _ _ us hl => match us, hl with | [_, _], _ => rfl
  have D_law_common := df_mk (st := s__law_common) (ps := ["book", "one", "two"]) X G a_law_common l_law_common c_law_common k_law_common fun _ _ _ _ _ _ us hl => match us, hl with | [_, _, _], _ => rfl
  have D_law_into := df_mk (st := s__law_into) (ps := ["book", "kind", "amount"]) X G a_law_into l_law_into c_law_into k_law_into fun _ _ _ _ _ _ us hl => match us, hl with | [_, _, _], _ => rfl
  have D_law_tried := df_mk (st := s__law_tried) (ps := ["book", "one", "two"]) X G a_law_tried l_law_tried c_law_tried k_law_tried fun _ _ _ _ _ _ us hl => match us, hl with | [_, _, _], _ => rfl
  have D_law_right := df_mk (st := s__law_right) (ps := ["pool"]) X G a_law_right l_law_right c_law_right k_law_right fun _ _ _ _ _ _ us hl => match us, hl with | [_], _ => rfl
  have D_law := df_mk (st := s_law) (ps := ["script"]) X G a_law l_law c_law k_law fun _ _ _ _ _ _ us hl => match us, hl with | [_], _ => rfl
  have T_KINDS : CT K mg "KINDS" vKINDS := ct_mk X G taKINDS tlKINDS tvKINDS (by decide)
  have T_SIGNED : CT K mg "SIGNED" vSIGNED := ct_mk X G taSIGNED tlSIGNED tvSIGNED (by decide)
  have T_UNSIGNED : CT K mg "UNSIGNED" vUNSIGNED := ct_mk X G taUNSIGNED tlUNSIGNED tvUNSIGNED (by decide)
  have T_PLAIN_SIGNS : CT K mg "PLAIN_SIGNS" vPLAIN := ct_mk X G taPLAIN_SIGNS tlPLAIN_SIGNS tvPLAIN_SIGNS (by decide)
  have I_LEAST_WIDTH : CI mg "LEAST_WIDTH" 2 := ci_mk X G iaLEAST_WIDTH
  have I_GREATEST_WIDTH : CI mg "GREATEST_WIDTH" 128 := ci_mk X G iaGREATEST_WIDTH
  have I_INT_RANK : CI mg "INT_RANK" 2 := ci_mk X G iaINT_RANK
  have R_RANKS : CR5 K w mg := ⟨qR, PySem.W.mg_of X G ra, fun k => by
    cases k
    · exact ⟨esR, nR, _, rl, rk, r0, ⟨_, rfl⟩⟩
    · exact ⟨esR, nR, _, rl, rk, r1, ⟨_, rfl⟩⟩
    · exact ⟨esR, nR, _, rl, rk, r2, ⟨_, rfl⟩⟩
    · exact ⟨esR, nR, _, rl, rk, r3, ⟨_, rfl⟩⟩
    · exact ⟨esR, nR, _, rl, rk, r4, ⟨_, rfl⟩⟩
    · exact ⟨esR, nR, _, rl, rk, r5, ⟨_, rfl⟩⟩
    · exact ⟨esR, nR, _, rl, rk, r6, ⟨_, rfl⟩⟩
    · exact ⟨esR, nR, _, rl, rk, r7, ⟨_, rfl⟩⟩
    · exact ⟨esR, nR, _, rl, rk, r8, ⟨_, rfl⟩⟩
    · exact ⟨esR, nR, _, rl, rk, r9, ⟨_, rfl⟩⟩
    · exact ⟨esR, nR, _, rl, rk, r10, ⟨_, rfl⟩⟩⟩
  have N_len : mg "len" = none := PySem.W.mg_none_of X G z_len
  have N_enumerate : mg "enumerate" = none := PySem.W.mg_none_of X G z_enumerate
  have N_abs : mg "abs" = none := PySem.W.mg_none_of X G z_abs
  have N_range : mg "range" = none := PySem.W.mg_none_of X G z_range
  have N_min : mg "min" = none := PySem.W.mg_none_of X G z_min
  have N_max : mg "max" = none := PySem.W.mg_none_of X G z_max
  have N_tuple : mg "tuple" = none := PySem.W.mg_none_of X G z_tuple
  have N_int : mg "int" = none := PySem.W.mg_none_of X G z_int
  have N_sorted : mg "sorted" = none := PySem.W.mg_none_of X G z_sorted
  have N_repr : mg "repr" = none := PySem.W.mg_none_of X G z_repr
  refine ⟨PySem.W.fnOf "law" "law" (defArgs s_law) (defBody s_law) (defScope s_law) .none kV_law dc_law pm_law an_law cd_law ct_law, fun s v => .of_eq rfl, fun base _ _ => ?_⟩
  have C_bits_of := Cl.mk D_bits_of (ok_bits_of (P := Pr) (w := w) (base := base) D_bits_of R_RANKS)
  have C_is_unsigned := Cl.mk D_is_unsigned (ok_is_unsigned (P := Pr) (w := w) (base := base) D_is_unsigned T_UNSIGNED)
  have C_limits_of := Cl.mk D_limits_of (ok_limits_of (P := Pr) (w := w) (base := base) D_limits_of C_bits_of C_is_unsigned)
  have C_check_widths := Cl.mk D_check_widths (ok_check_widths (P := Pr) (w := w) (base := base) D_check_widths T_SIGNED I_LEAST_WIDTH I_GREATEST_WIDTH N_len N_enumerate)
  have C_check_model := Cl.mk D_check_model (ok_check_model (P := Pr) (w := w) (base := base) D_check_model C_check_widths T_PLAIN_SIGNS)
  have C_check_kind := Cl.mk D_check_kind (ok_check_kind (P := Pr) (w := w) (base := base) D_check_kind T_KINDS)
  have C_promoted_kind := Cl.mk D_promoted_kind (ok_promoted_kind (P := Pr) (w := w) (base := base) D_promoted_kind R_RANKS I_INT_RANK C_is_unsigned C_bits_of)
  have C_common_of_mixed := Cl.mk D_common_of_mixed (ok__common_of_mixed (P := Pr) (w := w) (base := base) D_common_of_mixed R_RANKS T_UNSIGNED C_bits_of)
  have C_common_kind := Cl.mk D_common_kind (ok_common_kind (P := Pr) (w := w) (base := base) D_common_kind R_RANKS C_promoted_kind C_is_unsigned C_common_of_mixed)
  have C_checked_signed_one := Cl.mk D_checked_signed_one (ok__checked_signed_one (P := Pr) (w := w) (base := base) D_checked_signed_one C_check_model C_check_kind C_is_unsigned C_common_kind)
  have F_count_wrong := ok_count_wrong (P := Pr) (w := w) (base := base) D_count_wrong C_checked_signed_one C_limits_of C_bits_of C_common_kind
  have C_count_wrong := Cl.mk D_count_wrong F_count_wrong
  have F_first_wrong := ok_first_wrong (P := Pr) (w := w) (base := base) D_first_wrong C_checked_signed_one C_limits_of
  have C_first_wrong := Cl.mk D_first_wrong F_first_wrong
  have C_law_pool := Cl.mk D_law_pool (ok__law_pool (P := Pr) (w := w) (base := base) D_law_pool N_len N_max N_abs)
  have C_law_draw := Cl.mk D_law_draw (ok__law_draw (P := Pr) (w := w) (base := base) D_law_draw)
  have C_law_kinds := Cl.mk D_law_kinds (ok__law_kinds (P := Pr) (w := w) (base := base) D_law_kinds)
  have C_law_bits := Cl.mk D_law_bits (ok__law_bits (P := Pr) (w := w) (base := base) D_law_bits C_law_kinds)
  have C_law_is_unsigned := Cl.mk D_law_is_unsigned (ok__law_is_unsigned (P := Pr) (w := w) (base := base) D_law_is_unsigned)
  have C_law_ends := Cl.mk D_law_ends (ok__law_ends (P := Pr) (w := w) (base := base) D_law_ends C_law_bits C_law_is_unsigned N_range)
  have C_law_common := Cl.mk D_law_common (ok__law_common (P := Pr) (w := w) (base := base) D_law_common C_law_kinds C_law_bits C_law_is_unsigned)
  have C_law_into := Cl.mk D_law_into (ok__law_into (P := Pr) (w := w) (base := base) D_law_into C_law_ends)
  have C_law_tried := Cl.mk D_law_tried (ok__law_tried (P := Pr) (w := w) (base := base) D_law_tried C_law_common C_law_ends C_law_into N_range N_len)
  have K_count_wrong := Ck.mk (ks := ["second", "first", "model"]) (gV := gV3) D_count_wrong F_count_wrong gU3 (fun _ _ _ _ _ _ ws hl => match ws, hl with | [_, _, _], _ => rfl) (fun a b => g3_rel a b)
  have K_first_wrong := Ck.mk (ks := ["second", "first", "model"]) (gV := gV3) D_first_wrong F_first_wrong gU3 (fun _ _ _ _ _ _ ws hl => match ws, hl with | [_, _, _], _ => rfl) (fun a b => g3_rel a b)
  have C_law_right := Cl.mk D_law_right (ok__law_right (P := Pr) (w := w) (base := base) D_law_right C_law_kinds C_law_draw C_law_tried C_count_wrong C_first_wrong K_count_wrong K_first_wrong N_range N_tuple N_sorted N_int N_repr)
  exact ok_law (P := Pr) (w := w) (base := base) D_law C_law_pool C_law_right C_count_wrong C_first_wrong N_range N_min N_max N_len
end Cf
open PySem PySem.W PyProof.Rows
set_option maxHeartbeats 0 in
theorem PySem.Challenge.cw_castforms_k44_mixed_comparisons_by_tryin_holds : PySem.Challenge.rw_castforms_k44_mixed_comparisons_by_tryin.Holds := by
  w_on; o_law; k_head; (case hw => w_witness2)
  k_fill
  refine Cf.walkG (l := PySem.Challenge.rw_castforms_k44_mixed_comparisons_by_tryin) (n := 63) (k := 7) (x := "script") (CX := fun _ => L2.CX0) (sp := fun w => Cf.spLaw _) rfl (by decide) rfl ⟨rfl, by decide, by decide⟩ (fun w h Y => PySem.W.kIn_of Y) ?F (fun _ _ a ns hl _ hS => ⟨a, ns, rfl, hS, hl, fun _ => rfl⟩) (fun _ _ _ _ _ h => h)
  case F =>
    intro w mg fa h KX G hmg
    refine' Cf.all_mk (w := w) KX G hmg ?a_bits_of ?l_bits_of ?c_bits_of ?k_bits_of ?a_is_unsigned ?l_is_unsigned ?c_is_unsigned ?k_is_unsigned ?a_limits_of ?l_limits_of ?c_limits_of ?k_limits_of ?a_check_widths ?l_check_widths ?c_check_widths ?k_check_widths ?a_check_model ?l_check_model ?c_check_model ?k_check_model ?a_check_kind ?l_check_kind ?c_check_kind ?k_check_kind ?a_promoted_kind ?l_promoted_kind ?c_promoted_kind ?k_promoted_kind ?a_common_of_mixed ?l_common_of_mixed ?c_common_of_mixed ?k_common_of_mixed ?a_common_kind ?l_common_kind ?c_common_kind ?k_common_kind ?a_checked_signed_one ?l_checked_signed_one ?c_checked_signed_one ?k_checked_signed_one ?a_count_wrong ?l_count_wrong ?c_count_wrong ?k_count_wrong ?a_first_wrong ?l_first_wrong ?c_first_wrong ?k_first_wrong ?a_law_pool ?l_law_pool ?c_law_pool ?k_law_pool ?a_law_draw ?l_law_draw ?c_law_draw ?k_law_draw ?a_law_kinds ?l_law_kinds ?c_law_kinds ?k_law_kinds ?a_law_bits ?l_law_bits ?c_law_bits ?k_law_bits ?a_law_is_unsigned ?l_law_is_unsigned ?c_law_is_unsigned ?k_law_is_unsigned ?a_law_ends ?l_law_ends ?c_law_ends ?k_law_ends ?a_law_common ?l_law_common ?c_law_common ?k_law_common ?a_law_into ?l_law_into ?c_law_into ?k_law_into ?a_law_tried ?l_law_tried ?c_law_tried ?k_law_tried ?a_law_right ?l_law_right ?c_law_right ?k_law_right ?a_law ?l_law ?c_law ?k_law ?taKINDS ?tlKINDS ?tvKINDS ?taSIGNED ?tlSIGNED ?tvSIGNED ?taUNSIGNED ?tlUNSIGNED ?tvUNSIGNED ?taPLAIN_SIGNS ?tlPLAIN_SIGNS ?tvPLAIN_SIGNS ?iaLEAST_WIDTH ?iaGREATEST_WIDTH ?iaINT_RANK ?ra ?rl ?rk ?r0 ?r1 ?r2 ?r3 ?r4 ?r5 ?r6 ?r7 ?r8 ?r9 ?r10 ?z_len ?z_enumerate ?z_abs ?z_range ?z_min ?z_max ?z_tuple ?z_int ?z_sorted ?z_repr
    (case a_bits_of => k_is)
    (case l_bits_of => k_is)
    (case c_bits_of => k_is)
    (case k_bits_of => k_is)
    (case a_is_unsigned => k_is)
    (case l_is_unsigned => k_is)
    (case c_is_unsigned => k_is)
    (case k_is_unsigned => k_is)
    (case a_limits_of => k_is)
    (case l_limits_of => k_is)
    (case c_limits_of => k_is)
    (case k_limits_of => k_is)
    (case a_check_widths => k_is)
    (case l_check_widths => k_is)
    (case c_check_widths => k_is)
    (case k_check_widths => k_is)
    (case a_check_model => k_is)
    (case l_check_model => k_is)
    (case c_check_model => k_is)
    (case k_check_model => k_is)
    (case a_check_kind => k_is)
    (case l_check_kind => k_is)
    (case c_check_kind => k_is)
    (case k_check_kind => k_is)
    (case a_promoted_kind => k_is)
    (case l_promoted_kind => k_is)
    (case c_promoted_kind => k_is)
    (case k_promoted_kind => k_is)
    (case a_common_of_mixed => k_is)
    (case l_common_of_mixed => k_is)
    (case c_common_of_mixed => k_is)
    (case k_common_of_mixed => k_is)
    (case a_common_kind => k_is)
    (case l_common_kind => k_is)
    (case c_common_kind => k_is)
    (case k_common_kind => k_is)
    (case a_checked_signed_one => k_is)
    (case l_checked_signed_one => k_is)
    (case c_checked_signed_one => k_is)
    (case k_checked_signed_one => k_is)
    (case a_count_wrong => k_is)
    (case l_count_wrong => k_is)
    (case c_count_wrong => k_is)
    (case k_count_wrong => k_is)
    (case a_first_wrong => k_is)
    (case l_first_wrong => k_is)
    (case c_first_wrong => k_is)
    (case k_first_wrong => k_is)
    (case a_law_pool => k_is)
    (case l_law_pool => k_is)
    (case c_law_pool => k_is)
    (case k_law_pool => k_is)
    (case a_law_draw => k_is)
    (case l_law_draw => k_is)
    (case c_law_draw => k_is)
    (case k_law_draw => k_is)
    (case a_law_kinds => k_is)
    (case l_law_kinds => k_is)
    (case c_law_kinds => k_is)
    (case k_law_kinds => k_is)
    (case a_law_bits => k_is)
    (case l_law_bits => k_is)
    (case c_law_bits => k_is)
    (case k_law_bits => k_is)
    (case a_law_is_unsigned => k_is)
    (case l_law_is_unsigned => k_is)
    (case c_law_is_unsigned => k_is)
    (case k_law_is_unsigned => k_is)
    (case a_law_ends => k_is)
    (case l_law_ends => k_is)
    (case c_law_ends => k_is)
    (case k_law_ends => k_is)
    (case a_law_common => k_is)
    (case l_law_common => k_is)
    (case c_law_common => k_is)
    (case k_law_common => k_is)
    (case a_law_into => k_is)
    (case l_law_into => k_is)
    (case c_law_into => k_is)
    (case k_law_into => k_is)
    (case a_law_tried => k_is)
    (case l_law_tried => k_is)
    (case c_law_tried => k_is)
    (case k_law_tried => k_is)
    (case a_law_right => k_is)
    (case l_law_right => k_is)
    (case c_law_right => k_is)
    (case k_law_right => k_is)
    (case a_law => k_is)
    (case l_law => k_is)
    (case c_law => k_is)
    (case k_law => k_is)
    (case taKINDS => k_is)
    (case tlKINDS => k_is)
    (case tvKINDS => repeat (first | exact L2.Paired.nil | exact Paired.nil | refine Paired.cons ⟨_, rfl⟩ ?_))
    (case taSIGNED => k_is)
    (case tlSIGNED => k_is)
    (case tvSIGNED => repeat (first | exact L2.Paired.nil | exact Paired.nil | refine Paired.cons ⟨_, rfl⟩ ?_))
    (case taUNSIGNED => k_is)
    (case tlUNSIGNED => k_is)
    (case tvUNSIGNED => repeat (first | exact L2.Paired.nil | exact Paired.nil | refine Paired.cons ⟨_, rfl⟩ ?_))
    (case taPLAIN_SIGNS => k_is)
    (case tlPLAIN_SIGNS => k_is)
    (case tvPLAIN_SIGNS => repeat (first | exact L2.Paired.nil | exact Paired.nil | refine Paired.cons ⟨_, rfl⟩ ?_))
    (case iaLEAST_WIDTH => k_is)
    (case iaGREATEST_WIDTH => k_is)
    (case iaINT_RANK => k_is)
    (case ra => k_is)
    (case rl => k_is)
    (case rk => exact ⟨⟨_, _, rfl, rfl⟩, ⟨⟨_, _, rfl, rfl⟩, ⟨⟨_, _, rfl, rfl⟩, ⟨⟨_, _, rfl, rfl⟩, ⟨⟨_, _, rfl, rfl⟩, ⟨⟨_, _, rfl, rfl⟩, ⟨⟨_, _, rfl, rfl⟩, ⟨⟨_, _, rfl, rfl⟩, ⟨⟨_, _, rfl, rfl⟩, ⟨⟨_, _, rfl, rfl⟩, ⟨⟨_, _, rfl, rfl⟩, trivial⟩⟩⟩⟩⟩⟩⟩⟩⟩⟩⟩)
    (case r0 => k_is)
    (case r1 => k_is)
    (case r2 => k_is)
    (case r3 => k_is)
    (case r4 => k_is)
    (case r5 => k_is)
    (case r6 => k_is)
    (case r7 => k_is)
    (case r8 => k_is)
    (case r9 => k_is)
    (case r10 => k_is)
    (case z_len => k_is)
    (case z_enumerate => k_is)
    (case z_abs => k_is)
    (case z_range => k_is)
    (case z_min => k_is)
    (case z_max => k_is)
    (case z_tuple => k_is)
    (case z_int => k_is)
    (case z_sorted => k_is)
    (case z_repr => k_is)
