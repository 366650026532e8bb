import PyProof.Rows.All
import Wide.All
import OpenK.AllK
import Wide.FinOn
import HandS.Base
import HandS.Call
import HandS.Comp
import HandS.Conv
import HandS.Deep
import HandS.Defaults
import HandS.Dict
import HandS.DictComp
import HandS.DictEq
import HandS.Ends
import HandS.Evl
import HandS.Exc
import HandS.ExcField
import HandS.ExcInit
import HandS.ExcIs
import HandS.ExcOwn
import HandS.ExcValue
import HandS.Gcd
import HandS.IsInst
import HandS.Iter
import HandS.List
import HandS.More
import HandS.NoneIn
import HandS.RaiseMore
import HandS.SortInts
import HandS.Style
import HandS.Text
import HandS.TryOnly
import HandS.TupAny
import HandS.Walk
import HandS.Wide
import HandS.WideBits
import HandS.Words
import HandS.WordsExc
import HandS.Zip
import KE.GoesEnum
import KE.KDictZip
import KE.KExcIs
import KE.KMathGC
import PyProof.CallFns
import PyProof.LongRange
import PyProof.ReprBulk
import PyProof.ReprLen
import PyProof.ReprRoads
import PyProof.Rows.Digits
import PySem.Challenge.RW_castforms_k49_errors_of_mixed_and_sums
set_option Elab.async false
set_option linter.all false
set_option exponentiation.threshold 20000
set_option maxRecDepth 100000
set_option maxHeartbeats 8000000
namespace Cf
open PySem PySem.Spec PyProof.Rows L2

/-! ## defs that know that no repr is under way (guards) -/
structure FnG (P : Program) (w : World) (K : PySem.W.Frag) (mg : Str → Option Value) (base : Heap) (CX : CXT) (k : Nat) (f : Addr)
    (fd : FuncData) (ps : List Str) (sp : Sp) : Prop where
  len : ∀ vs H Q E, sp vs H Q E → vs.length = ps.length
  run : ∀ (A : Around) (outer : List Env) (s : Shared) (H : Hp) (args : Args) (us : List Value) (vs : List V) (Q : VK) (E : XK),
    A.guards = some [] → Room k A → Env0 P w K mg base A outer s H → BindsTo s fd args (ps.zip us) → Vals vs us → sp vs H Q E →
    codeAny (model P w) A (.call (.ref f) args) (CR CX outer P w H s Q E) s
section
variable {P : Program} {w : World} {K : PySem.W.Frag} {mg : Str → Option Value} {base : Heap} {CX : CXT}
theorem FnG.of {k : Nat} {f : Addr} {fd : FuncData} {ps : List Str} {sp : Sp} (F : FnOk P w K mg base CX k f fd ps sp) : FnG P w K mg base CX k f fd ps sp :=
  ⟨F.len, fun A outer s H args us vs Q E _ => F.run A outer s H args us vs Q E⟩
theorem FnG.mono {j k : Nat} {f : Addr} {fd : FuncData} {ps : List Str} {sp : Sp} (F : FnG P w K mg base CX j f fd ps sp) (h : j ≤ k) : FnG P w K mg base CX k f fd ps sp :=
  ⟨F.len, fun A outer s H args us vs Q E hg hr => F.run A outer s H args us vs Q E hg (hr.mono h)⟩
theorem FnG.imp {k : Nat} {f : Addr} {fd : FuncData} {ps : List Str} {sp sp2 : Sp} (F : FnG P w K mg base CX k f fd ps sp)
    (h : ∀ vs H Q E, sp2 vs H Q E → sp vs H Q E) : FnG P w K mg base CX k f fd ps sp2 :=
  ⟨fun vs H Q E q => F.len vs H Q E (h _ _ _ _ q), fun A outer s H args us vs Q E hg hr he hb hv hs => F.run A outer s H args us vs Q E hg hr he hb hv (h _ _ _ _ hs)⟩
end

section
variable {X : Cx} {CX : CXT} {k : Nat} {f : Addr} {fd : FuncData} {ps ks : List Str} {sp : Sp} {dvs : List V} {ds : List Value} {E : XK} {x : Str}
  {p pos : Pos} {e : Expr} {es : List Expr} {kws : List Keyword} {t tk : TA} {g : List Value → List Value → List Value} {gV : List V → List V → List V}
  {pins : List (Addr × Obj)} {σ : L2.St} {H : Hp} {s : Shared} {Q : VK}
/-- how a call's result is handed on -/
theorem ends_call {r : Result} {s' : Shared} (I : Inv X pins σ H s) (hx : Passes CX X E) (hq : CR CX X.stack X.prog X.w H s Q E r s') :
    match r with | .ok (.ret u) => EP X pins σ Q u s' | .ok _ => False | .error er => X.xe er s' := by
  match r, hq with
  | .error er, hq => exact hx pins σ H s er s' I hq
  | .ok (.ret u), hq => exact I.after hq
theorem run_g {us : List Value} {vs : List V} (F : FnG X.prog X.w X.K X.mg X.base CX k f fd ps sp) (hG : X.A.guards = some []) (hr : Room k X.A)
    (hb : Binds X.K fd ps ds) (hd : Vals dvs ds) (hx : Passes CX X E) (I : Inv X pins σ H s) (rv : Vals vs us) (hs : sp (vs ++ dvs) H Q E) :
    wpAny (model X.prog X.w) X.A (call (.ref f) us) (EP X pins σ Q) X.xe s := by
  have rr : Vals (vs ++ dvs) (us ++ ds) := rv.append hd
  have el : (us ++ ds).length = ps.length := (rr.length).symm.trans (F.len _ _ _ _ hs)
  refine wpAny_call (codeAny_mono (F.run X.A X.stack s H ⟨us, []⟩ (us ++ ds) (vs ++ dvs) Q E hG hr I.env0 (hb s us I.kIn el) rr hs) fun r s' q => ?_)
  have q2 := ends_call I hx q
  revert q2
  match r with
  | .error er => exact id
  | .ok (.ret u) => exact id
  | .ok .next => exact False.elim
  | .ok .brk => exact False.elim
  | .ok .cont => exact False.elim
theorem pe_g (F : FnG X.prog X.w X.K X.mg X.base CX k f fd ps sp) (hG : X.A.guards = some []) (hr : Room k X.A) (hg : Gl X x) (hm : X.mg x = some (.ref f))
    (hk : PySem.W.keepIn X.K (.ref f) = true) (hb : Binds X.K fd ps ds) (hd : Vals dvs ds) (hx : Passes CX X E) (ha : PA X (e :: es) t)
    (hdb : (x == ("__debug__" : Str)) = false := by decide)
    (he : starEach (e :: es) X.env = (false, eval e X.env) :: starEach es X.env := by rfl)
    (hpl : (backTo pos (starEach es X.env)).any (·.1) = false := by rfl) : PE X (.Call (.Name x p) (e :: es) [] pos) (tCall sp dvs E t) := by
  constructor
  intro pins s σ H Q I h
  refine wpAny_Call_Name_kw (ld_glob I hg hm ?_ hdb)
  have step := thn (ha.run pos pins s σ H _ I h) (Q' := fun us s1 => X.K.In s1.heap ∧ wpAny (model X.prog X.w) X.A (call (.ref f) us) (EP X pins σ Q) X.xe s1) fun us s1 hh => by
    obtain ⟨vs, H1, I1, r, q⟩ := hh
    exact ⟨I1.kIn, run_g F hG hr hb hd hx I1 r q⟩
  exact PySem.W.callWith_K (h₀ := X.base) I.ok.mod.kin hk step he hpl
theorem pe_g0 (F : FnG X.prog X.w X.K X.mg X.base CX k f fd ps sp) (hG : X.A.guards = some []) (hr : Room k X.A) (hg : Gl X x) (hm : X.mg x = some (.ref f))
    (hk : PySem.W.keepIn X.K (.ref f) = true) (hb : Binds X.K fd ps ds) (hd : Vals dvs ds) (hx : Passes CX X E)
    (hdb : (x == ("__debug__" : Str)) = false := by decide) : PE X (.Call (.Name x p) [] [] pos) (tCall sp dvs E tNil) := by
  constructor
  intro pins s σ H Q I h
  refine wpAny_Call_Name_kw (ld_glob I hg hm ?_ hdb)
  exact PySem.W.callWith_K0 I.kIn hk (run_g (us := []) F hG hr hb hd hx I .nil h)
theorem run_gk {us ws : List Value} {vs zs : List V} (F : FnG X.prog X.w X.K X.mg X.base CX k f fd ps sp) (hG : X.A.guards = some []) (hr : Room k X.A)
    (hb : KBinds X.K fd ps ks g gV) (hx : Passes CX X E) (I : Inv X pins σ H s) (rv : Vals vs us) (rz : Vals zs ws) (hs : sp (gV vs zs) H Q E) :
    wpAny (model X.prog X.w) X.A (call (.ref f) us (ks.zip ws)) (EP X pins σ Q) X.xe s := by
  have rr := hb.rel rv rz
  have el : (g us ws).length = ps.length := (rr.length).symm.trans (F.len _ _ _ _ hs)
  refine wpAny_call (codeAny_mono (F.run X.A X.stack s H ⟨us, ks.zip ws⟩ (g us ws) (gV vs zs) Q E hG hr I.env0 (hb.to s us ws I.kIn el) rr hs) fun r s' q => ?_)
  have q2 := ends_call I hx q
  revert q2
  match r with
  | .error er => exact id
  | .ok (.ret u) => exact id
  | .ok .next => exact False.elim
  | .ok .brk => exact False.elim
  | .ok .cont => exact False.elim
end
end Cf

namespace Cf
open PySem PySem.Spec PyProof.Rows L2

section
variable {X : Cx} {CX : CXT} {k n : Nat} {f : Addr} {fd : FuncData} {ps ks : List Str} {sp : Sp} {E : XK} {x : Str} {p pos : Pos} {e : Expr} {es : List Expr}
  {kws : List Keyword} {t tk : TA} {g : List Value → List Value → List Value} {gV : List V → List V → List V}
/-- keywords alone: a call whose arguments all are named; g orders them -/
def tKw (m : Nat) (sp : Sp) (gV : List V → List V) (E : XK) (tk : TA) : TE := fun σ H Q => tk σ H fun zs H2 => zs.length = m ∧ sp (gV zs) H2 Q E
structure KwB (K : PySem.W.Frag) (fd : FuncData) (ps ks : List Str) (g : List Value → List Value) (gV : List V → List V) : Prop where
  to : ∀ (s : Shared) (ws : List Value), K.In s.heap → ws.length = ks.length → BindsTo s fd ⟨[], ks.zip ws⟩ (ps.zip (g ws))
  rel : ∀ {zs : List V} {ws : List Value}, zs.length = ks.length → Vals zs ws → Vals (gV zs) (g ws)
variable {g1 : List Value → List Value} {gV1 : List V → List V}
theorem pe_gkw (F : FnG X.prog X.w X.K X.mg X.base CX k f fd ps sp) (hG : X.A.guards = some []) (hr : Room k X.A) (hg : Gl X x) (hm : X.mg x = some (.ref f))
    (hk : PySem.W.keepIn X.K (.ref f) = true) (hb : KwB X.K fd ps ks g1 gV1) (hx : Passes CX X E) (hkw : PK X kws tk)
    (hall : (backToKw pos (keywordEach kws X.env)).all (·.1.isSome) = true := by rfl)
    (hks : (backToKw pos (keywordEach kws X.env)).filterMap (·.1) = ks := by rfl)
    (hdb : (x == ("__debug__" : Str)) = false := by decide)
    (hpl : ((backTo pos (starEach [] X.env)).any (·.1) || (backToKw pos (keywordEach kws X.env)).any (·.1.isNone)) = false := by rfl) :
    PE X (.Call (.Name x p) [] kws pos) (tKw ks.length sp gV1 E tk) := by
  constructor
  intro pins s σ H Q I h
  refine wpAny_Call_Name_kw (ld_glob I hg hm ?_ hdb)
  refine PySem.W.callWith_KW0 (h₀ := X.base) I.ok.mod.kin hk hall (thn (hkw.run pos pins s σ H _ I h) fun ws s2 hh => ?_) hpl
  obtain ⟨zs, H2, I2, rz, l2, q2⟩ := hh
  refine ⟨I2.kIn, ?_⟩
  rw [hks]
  have lw : ws.length = ks.length := rz.length.symm.trans l2
  have rr := hb.rel l2 rz
  refine wpAny_call (codeAny_mono (F.run X.A X.stack s2 H2 ⟨[], ks.zip ws⟩ (g1 ws) (gV1 zs) Q E hG hr I2.env0 (hb.to s2 ws I2.kIn lw) rr q2) fun r s' q => ?_)
  have q3 := ends_call I2 hx q
  revert q3
  match r with
  | .error er => exact id
  | .ok (.ret u) => exact id
  | .ok .next => exact False.elim
  | .ok .brk => exact False.elim
  | .ok .cont => exact False.elim
end

/-! ## repr of data -/
section
variable {X : Cx}
def rRepr (K : PySem.W.Frag) : List V → Hp → VK → Prop := fun xs H Q => ∃ (a : Addr) (d : PyData), xs = [.ref a] ∧ Dp K H (.ref a) d ∧ d.showable = true ∧ d.hasDict = false ∧
  d.shown.length ≤ sizeLine ∧ d.depth ≤ 60 ∧ Q (.str d.shown) H
theorem call_repr (hG : X.A.guards = some []) (hu : X.A.units + 64 < cLine) : CallR X (.builtin "repr") (rRepr X.K) := by
  intro pins s σ H xs us Q I r h
  obtain ⟨a, d, rfl, hd, hs, hn, hz, hp, q⟩ := h
  obtain ⟨u, rfl, rx⟩ := vals1 r
  obtain ⟨as, rd⟩ := Dp.reads I d _ u hd rx
  obtain rfl : u = Value.ref a := rx
  refine repr_of_reads' rd hs (fun z => by rw [hn] at z; cases z) hG (by omega) (fun b o e => e) (fun h' u tk kp => ?_) hz
  exact ⟨.str d.shown, H, I.kept kp, ⟨u, rfl⟩, q⟩
/-- a ** b of great numbers -/
def CPowW (i j : Int) : Prop := 0 ≤ j ∧ j ≤ 100 ∧ i.natAbs.log2 < 100000
theorem op_powW : OpR X (binaryOp .Pow) (rI CPowW fun i j => .int (i ^ j.toNat)) := opI fun i j _ _ _ _ _ hc q => by
  obtain ⟨h0, h1, h2⟩ := hc
  refine pow_int h0 ?_ q
  have hb : Builtin.Int.intBits i ≤ i.natAbs.log2 + 1 := by
    unfold Builtin.Int.intBits
    split <;> omega
  have h3 : (Builtin.Int.intBits i : Int) ≤ 100000 := by omega
  have h4 : (Builtin.Int.intBits i : Int) * j ≤ 100000 * 100 := Int.mul_le_mul h3 h1 h0 (by decide)
  have h5 : (100000 * 100 : Int) ≤ 2 ^ 27 := by decide
  omega
end

/-! ## enumerate of a tuple -/
theorem meets_enum_tup (v : Addr) (items : Array Value) :
    Meets (Builtin.«enumerate.__new__» ⟨[.type "enumerate", .ref v], []⟩) (fun _ R s => s.heap.IsTuple v items ∧
      R (.ok (.ret (.ref (s.heap.push { cls := .type "tuple_iterator", data := .fields #[.ref v, .int 0 0] }).objs.size)))
        { s with heap := (s.heap.push { cls := .type "tuple_iterator", data := .fields #[.ref v, .int 0 0] }).push { cls := .type "enumerate", data := .fields #[.none, .bool false, .ref s.heap.objs.size, rawInt 0, .none, .none] } }) :=
  .of_wp fun prog w A R s h => by
    obtain ⟨hp, gg, dd, tk, os⟩ := s
    obtain ⟨h1, h⟩ := h
    have hsub := sub_enumerate
    have q1 : ∀ {A2 : Around} {E2 : Value → Shared → Prop} {Q2 : Value → Shared → Prop}, Q2 (.ref hp.objs.size) ⟨hp.push { cls := .type "tuple_iterator", data := .fields #[.ref v, .int 0 0] }, gg, dd, tk, os⟩ →
        wpAny (model prog w) A2 (pyIter (.ref v)) Q2 E2 ⟨hp, gg, dd, tk, os⟩ := fun q => wpAny_pyIter_tuple (s := ⟨hp, gg, dd, tk, os⟩) h1 q
    wp_walk using q1
    refine wpAny_stack_any fun st => wpAny_pure ?_
    split
    · rename_i c _ _ _ _ _
      cases (c == Value.type "enumerate")
      · wp_walk using q1
        exact ⟨_, rfl, h⟩
      · wp_walk using q1
        exact ⟨_, rfl, h⟩
    · wp_walk using q1
      exact ⟨_, rfl, h⟩
theorem call_enum_tup {prog : Program} {w : World} {A : Around} {E : Value → Shared → Prop} {s : Shared} {l : Addr} {items : Array Value} {Q : Value → Shared → Prop} (hL : s.heap.IsTuple l items)
    (h : ∀ h', IsEnum h' (s.heap.objs.size + 1) s.heap.objs.size 0 .none → h'.IsTupleIter s.heap.objs.size l 0 → h'.objs.size = s.heap.objs.size + 2 →
      (∀ b o, s.heap.get? b = some o → h'.get? b = some o) → Q (.ref (s.heap.objs.size + 1)) { s with heap := h' }) :
    wpAny (model prog w) A (call (.type "enumerate") [.ref l]) Q E s := by
  refine callType_new F.called_enumerate (by decide) (F.typeCall_enumerate_1 _) (F.newCall_enumerate_1 _) (fun obj => F.args_object_init_2 obj _) F.entry_enumerate_new
    (meets_enum_tup l items) ⟨hL, ?_⟩
  have z1 : (s.heap.push { cls := .type "tuple_iterator", data := .fields #[.ref l, .int 0 0] }).objs.size = s.heap.objs.size + 1 := Heap.size_push ..
  show _ ∧ _
  rw [z1]
  have z2 : IsEnum ((s.heap.push { cls := .type "tuple_iterator", data := .fields #[.ref l, .int 0 0] }).push
      { cls := .type "enumerate", data := .fields #[.none, .bool false, .ref s.heap.objs.size, rawInt 0, .none, .none] }) (s.heap.objs.size + 1) s.heap.objs.size 0 .none := by
    have z3 := Heap.get?_push_size (s.heap.push { cls := .type "tuple_iterator", data := .fields #[.ref l, .int 0 0] })
      (o := { cls := .type "enumerate", data := .fields #[.none, .bool false, .ref s.heap.objs.size, rawInt 0, .none, .none] }) rfl
    rw [z1] at z3
    exact z3
  refine ⟨⟨_, z2, rfl⟩, h _ z2 ⟨_, Heap.get?_push_of_some _ (Heap.get?_push_size _ rfl), rfl, rfl⟩ ?_ fun b o q => Heap.get?_push_of_some _ (Heap.get?_push_of_some _ q)⟩
  rw [Heap.size_push, z1]
end Cf

namespace Cf
open PySem PySem.Spec PyProof.Rows L2

/-- what enumerate of the tuple at a gives: each item in a new pair -/
def IteT (K : PySem.W.Frag) (a : Addr) : It :=
  ⟨fun i H => ∃ (xs : List V) (x : V), SqT K H a xs ∧ xs[i]? = some x,
    fun i H v H' => ∃ T x, v = .ref T ∧ H T = none ∧ H' = upd H T (.tup [.int (i : Nat), x]) ∧ ∀ xs, SqT K H a xs → xs[i]? = some x,
    fun i H => ∃ xs : List V, SqT K H a xs ∧ xs.length = i⟩
theorem turn_enumT {P : Program} {w : World} {K : PySem.W.Frag} {elts : List Expr} {kk : Nat} {tpos : Pos} (a e it : Addr) :
    Turn P w K (.Tuple elts kk tpos) (IteT K a) [e, it] e (fun i h => (∃ old, IsEnum h e it ((i : Nat) : Int) old) ∧ h.IsTupleIter it a i ∧ e ≠ it ∧ a ≠ it ∧ a ≠ e) where
  mem := by simp
  obj := fun i h st b hb => by
    obtain ⟨⟨old, he⟩, ⟨o, ho, hc, hd⟩, _⟩ := st
    have e' : b = e ∨ b = it := by simpa using hb
    rcases e' with z | z
    · rw [z]
      exact ⟨_, he, fun v q => nomatch q⟩
    · rw [z]
      exact ⟨o, ho, fun v q => by rw [hd] at q; cases q⟩
  keep := fun i h h' st kp => by
    obtain ⟨⟨old, he⟩, hi, hne⟩ := st
    exact ⟨⟨old, kp e (by simp) _ he⟩, hi.at fun o q => kp it (by simp) o q, hne⟩
  item := by
    intro X hP hw hK hc i pins s σ H E I hf st hg
    subst hP hw hK
    obtain ⟨⟨old, he⟩, hit, hne, hai, hae⟩ := st
    obtain ⟨xs, x, hq, hx⟩ := hg
    obtain ⟨its, rv, p, hz⟩ := I.tuple hq
    obtain ⟨u, hu, ru⟩ := rv.get hx
    have hel : e < s.heap.objs.size := Heap.lt_size he
    have hil : it < s.heap.objs.size := by
      obtain ⟨_, q, _⟩ := hit
      exact Heap.lt_size q
    have hlt : i < its.toArray.size := by
      have := (List.getElem?_eq_some_iff.mp hu).1
      simpa using this
    refine wpAny_pyNext_enum_itemD (Draws.tuple (prog := X.prog) (w := X.w) (A := X.A.in1) (I.ok.hd hc) it a hai its.toArray) he ⟨hit, p⟩ hlt hne (by
      intro z
      rcases List.mem_cons.mp z with z | z
      · exact hne z
      · exact hae (List.mem_singleton.mp z).symm) fun y h' tk hy ho hst hT hsz hk => ?_
    have ey : y = u := by
      have hy2 : its[i]? = some y := by simpa using hy
      exact Option.some.inj (hy2.symm.trans hu)
    subst ey
    refine ⟨_, rfl, wpAny_letOwnedTupleGo_enum (s := { s with heap := h', toks := tk + 1 }) ho fun h'' he' sb => ?_⟩
    have hT2 : h''.get? s.heap.objs.size = some { cls := .type "tuple", data := .seq #[.int i tk, y] } := (sb.2 _ (Nat.ne_of_gt hel)).trans hT
    have new : ObjOk X.prog X.w (upd H s.heap.objs.size (.tup [.int (i : Nat), x])) h'' s.heap.objs.size (.tup [.int (i : Nat), x]) :=
      ⟨by show 2 ≤ sizeLine; decide, [.int i tk, y], .cons ⟨_, rfl⟩ (.cons ru .nil), ⟨_, hT2, rfl, _, rfl⟩⟩
    have I1 : Inv X pins σ (upd H s.heap.objs.size (.tup [.int (i : Nat), x])) { s with heap := h'', toks := tk + 1 } :=
      I.turnedNew (ch := [e, it]) (fun b ob hb q => (sb.2 b (fun z => hb (by simp [z]))).trans (hk b ob (fun z => hb (by simp [z])) (fun z => hb (by simp [z])) q)) hf (Nat.le_refl _) new
    refine ⟨.ref s.heap.objs.size, _, I1, rfl, ⟨_, x, rfl, I.hok.fresh (Nat.le_refl _), rfl, fun ys hy => ?_⟩, ⟨⟨y, ?_⟩, hst.1.at fun o q => (sb.2 it (Ne.symm hne)).trans q, hne, hai, hae⟩, fun b hb => ?_⟩
    · rw [I.tuple_inj hy hq]
      exact hx
    · have e1 : ((i + 1 : Nat) : Int) = (i : Int) + 1 := by omega
      rw [e1]
      simpa using he'
    · have hb' : b < s.heap.objs.size := by
        have e' : b = e ∨ b = it := by simpa using hb
        rcases e' with z | z
        · rw [z]; exact hel
        · rw [z]; exact hil
      rw [upd_ne (Nat.ne_of_lt hb')]
      exact (hf b hb).1
  done := by
    intro X hP hw hK hc i pins s σ H E I hf st hg
    subst hP hw hK
    obtain ⟨⟨old, he⟩, hit, hne, hai, hae⟩ := st
    obtain ⟨xs, hq, hx⟩ := hg
    obtain ⟨its, rv, p, hz⟩ := I.tuple hq
    obtain ⟨f0, f1, f2, f3, f4, f5⟩ := hf it (by simp)
    have hl := rv.length
    have hn : its.toArray.size = i := by
      rw [List.size_toArray]
      omega
    subst hn
    refine wpAny_pyNext_enum_endD (Draws.tuple (prog := X.prog) (w := X.w) (A := X.A.in1) (I.ok.hd hc) it a hai its.toArray) he ⟨hit, p⟩ fun h' eb => ?_
    exact ⟨rfl, I.turned (t' := s.toks) (fun b o hb q => eb b o hb q) f0 f1 f3 f4 f5⟩
  self := fun A i s Q E st h => by
    obtain ⟨⟨_, he⟩, _⟩ := st
    exact wpAny_pyIter_enum he h
def iEnumT (K : PySem.W.Frag) (ta : TA) : TI := fun σ H R => ta σ H fun vs H1 => ∃ a xs, vs = [.ref a] ∧ SqT K H1 a xs ∧ R (IteT K a) H1
theorem pi_enumT {X : Cx} {e : Expr} {ta : TA} {p pos tpos : Pos} {elts : List Expr} {kk : Nat} (hg : Gl X "enumerate") (hm : X.mg "enumerate" = none) (ha : PA X [e] ta)
    (hs : starEach [e] X.env = [(false, eval e X.env)] := by rfl) : PI X (.Tuple elts kk tpos) (.Call (.Name "enumerate" p) [e] [] pos) (iEnumT X.K ta) := by
  constructor
  intro pins s σ H R I h
  refine Call_ (ld_blt I hg hm boot_enumerate (PyProof.Rows.callWith_type1 (thn (ha.run pos pins s σ H _ I h) fun us s1 hh => ?_) hs rfl))
  obtain ⟨vs, H1, I1, r1, a, xs, ex, hq, q⟩ := hh
  subst ex
  cases r1 with
  | cons r rr =>
    cases rr
    cases r
    obtain ⟨its, rv, pt, hz⟩ := I1.tuple hq
    have ha1 : a < s1.heap.objs.size := pt.lt
    refine call_enum_tup pt fun h' he hit hsz hk => wpAny_pyIter_enum he ?_
    have I2 : Inv X pins σ H1 { s1 with heap := h' } := I1.kept (t' := s1.toks) hk
    refine ⟨s1.heap.objs.size + 1, [s1.heap.objs.size + 1, s1.heap.objs.size], _, _, H1, rfl, I2, turn_enumT a (s1.heap.objs.size + 1) s1.heap.objs.size,
      ⟨⟨.none, he⟩, hit, Nat.succ_ne_self _, Nat.ne_of_lt ha1, Nat.ne_of_lt (Nat.lt_succ_of_lt ha1)⟩, fun b hb => ?_, q⟩
    have e' : b = s1.heap.objs.size + 1 ∨ b = s1.heap.objs.size := by simpa using hb
    have hle : s1.heap.objs.size ≤ b := by
      rcases e' with z | z
      · rw [z]
        exact Nat.le_add_right _ _
      · rw [z]
        exact Nat.le_refl _
    exact I1.fpOk hle (I1.hok.fresh hle)

/-! ## a def's body keeps its promise, no repr under way -/
theorem fng_of {CX : CXT} {P : Program} {w : World} {K : PySem.W.Frag} {mg : Str → Option Value} {base : Heap} {k : Nat} {f : Addr} {name qual : Str} {params : Arguments} {body : List Stmt} {scope : Scope}
    {dV kV doc pm cdv ct oc : Value} {an od : Option Addr} {osl : Array (Option Value)} {N ps : List Str} {sp : Sp}
    (lk : K.lookup f = some ⟨oc, od, .func (PySem.W.fnOf name qual params body scope dV kV doc pm an cdv ct), osl⟩) (hcd : PySem.W.codeIn K cdv qual = true) (S : FnScope N ps scope)
    (len : ∀ vs H Q E, sp vs H Q E → vs.length = ps.length)
    (hbody : ∀ (A : Around) (outer : List Env) (s : Shared) (H : Hp) (vs : List V) (Q : VK) (E : XK), A.guards = some [] → Room k (A.deeper (envOfC qual scope s.heap.objs.size f cdv)) → sp vs H Q E →
      ∃ t, PSs (cxOf CX P w K mg base N qual scope f cdv A outer s H E) body t ∧ t { nx := fun _ H' => Q .non H', rt := Q } (start N vs) H) :
    FnG P w K mg base CX (k + 1) f (PySem.W.fnOf name qual params body scope dV kV doc pm an cdv ct) ps sp := by
  refine ⟨len, ?_⟩
  intro A outer s H args us vs Q E hG hr e0 hb rv hsp
  have kept : ∀ b o, base.get? b = some o → s.heap.get? b = some o := fun b o q => (e0.bs b o q).1
  have inK : K.In s.heap := e0.mod.kin.keeps kept
  have lim : s.heap.NoLimit := e0.mod.nolimit.keeps kept
  have kinds : ∀ y ∈ ps.zip us, scope.names.lookup y.1 = some .local ∨ (scope.names.lookup y.1 = some .cell ∧ ((cellsFrom (s.heap.objs.size + 1) scope.names []).lookup y.1).isSome = true) := by
    intro y hy
    have hp := (List.of_mem_zip (show (y.1, y.2) ∈ ps.zip us from hy)).1
    exact (S.par y.1 hp).imp id fun q => ⟨q, PySem.W.cellsFrom_some _ _ _ (.inl q)⟩
  refine codeAny_call_function hr.depth (inK _ _ lk) rfl S.co S.gen rfl (PySem.W.codeRec_of inK hcd) (hb _ _ _ _ ?_)
  refine wpAny_newFunctionEnv_cells S.kind kinds fun env henv s1 x => ?_
  subst henv
  obtain ⟨t, ht, hq⟩ := hbody A outer s H vs Q E hG (hr.deeper _) hsp
  have I : Inv (cxOf CX P w K mg base N qual scope f cdv A outer s H E) [] (start N vs) H s1 := inv_start S hr.hd e0 (len _ _ _ _ hsp) rv x
  refine ⟨lim.keeps x.toInCall.keep, codeAny_func (wpAny_mono (ht.run [] s1 (start N vs) H _ I hq) (fun fl s' hs => ?_) fun e s' hs => hs)⟩
  match fl, hs with
  | .ret u, ⟨v, σ', H', J, r, q⟩ => exact ⟨v, H', J.os, J.bare, J.base, J.hok, r, q⟩
  | .next, ⟨σ', H', J, q⟩ => exact ⟨V.non, H', J.os, J.bare, J.base, J.hok, (rfl : RelV .non Value.none), q⟩
  | .brk, ⟨_, _, _, q⟩ => exact False.elim q
  | .cont, ⟨_, _, _, q⟩ => exact False.elim q
section
variable {P : Program} {w : World} {K : PySem.W.Frag} {mg : Str → Option Value} {base : Heap}
theorem fun_okG {CX : CXT} {x qual : Str} {st : Stmt} {f : Addr} {fd : FuncData} {N ps : List Str} {k : Nat} {sp : Sp} (F : Fun K x qual st f fd) (S : FnScope N ps (defScope st)) (len : ∀ vs H Q E, sp vs H Q E → vs.length = ps.length)
    (hbody : ∀ (cdv : Value) (A : Around) (outer : List Env) (s : Shared) (H : Hp) (vs : List V) (Q : VK) (E : XK), A.guards = some [] → Room k (A.deeper (envOfC qual (defScope st) s.heap.objs.size f cdv)) → sp vs H Q E →
      ∃ t, PSs (cxOf CX P w K mg base N qual (defScope st) f cdv A outer s H E) (defBody st) t ∧ t { nx := fun _ H' => Q .non H', rt := Q } (start N vs) H) : FnG P w K mg base CX (k + 1) f fd ps sp := by
  obtain ⟨oc, od, kV, doc, pm, an, cdv, ct, osl, rfl, lk, hcd⟩ := F.ex
  exact fng_of lk hcd S len fun A outer s H vs Q E hG hr hsp => hbody cdv A outer s H vs Q E hG hr hsp
theorem fun_kw {x qual : Str} {st : Stmt} {f : Addr} {fd : FuncData} {ps ks : List Str} {g : List Value → List Value} {gV : List V → List V} (F : Fun K x qual st f fd)
    (h : ∀ (kV doc pm : Value) (an : Option Addr) (cdv ct : Value) (ws : List Value), ws.length = ks.length → bindArgs (PySem.W.fnOf x qual (defArgs st) (defBody st) (defScope st) .none kV doc pm an cdv ct) ⟨[], ks.zip ws⟩ = pure (ps.zip (g ws)))
    (rel : ∀ {zs : List V} {ws : List Value}, zs.length = ks.length → Vals zs ws → Vals (gV zs) (g ws)) : KwB K fd ps ks g gV := by
  obtain ⟨oc, od, kV, doc, pm, an, cdv, ct, osl, rfl, lk, hcd⟩ := F.ex
  exact ⟨fun s ws _ hl => .of_eq (h kV doc pm an cdv ct ws hl), rel⟩
end
end Cf

namespace Cf
open PySem PySem.Spec PyProof.Rows L2

/-- from an abstract heap in which nothing but the script may be tracked -/
theorem lawG_core {P : Program} {w : World} {K : PySem.W.Frag} {mg mb : Str → Option Value} {CX : CXT} {k : Nat} {fa a : Addr} {fd : FuncData} {x : Str} {sp : Sp} {s1 : Shared} {vs : List Value}
    (KX : K.In s1.heap) (hns : s1.heap.Ns mainGlobals mg) (hb : s1.heap.Ns builtinsNs mb) (hbb : ∀ x : Str, x ≠ "__name__" → mb x = bootBuiltins x) (hlim : s1.heap.NoLimit) (hg : s1.gens = #[])
    (ha : s1.heap.get? a = some { cls := .type "list", data := .seq vs.toArray }) (hr : Room k callerA)
    (F : ∀ base : Heap, K.In base → base.Ns mainGlobals mg → FnG P w K mg base CX k fa fd [x] sp) (hbind : ∀ (s : Shared) (u : Value), BindsTo s fd ⟨[u], []⟩ [(x, u)])
    (hCX : ∀ H e s', CX [] H s1 (fun _ _ _ => False) e s' → False) (H : Hp) (hO : Only H) (hok : HOk P w H s1.heap) (hA : ∀ b, H b ≠ none → b = a) (hK : H a ≠ none → K.lookup a = none)
    (hsp : sp [.ref a] H (fun v _ => v = .bl true) fun _ _ _ => False) :
    codeAny (model P w) callerA (.call (.ref fa) ⟨[.ref a], []⟩) (fun r s' => r = .ok (.ret (.bool true)) ∧ OldK s1.heap s'.heap ∧ s'.os = s1.os ∧ AllBare s'.gens) s1 := by
  have noDict : ∀ (b : Addr) (o : Obj) (es : Array DictEntry) (ep : Nat), s1.heap.get? b = some o → o.data = .dict es ep → H b = none := by
    intro b o es ep q1 q2
    by_cases hb0 : H b = none
    · exact hb0
    · have e1 := hA b hb0
      subst e1
      rw [ha] at q1
      cases q1
      cases q2
  have ns2 : ∀ (b : Addr) (m : Str → Option Value), s1.heap.Ns b m → (hidT s1.heap H).Ns b m := by
    intro b m hm
    obtain ⟨o, es, ep, q1, q2, q3⟩ := hm
    exact ⟨o, es, ep, hidT_get q1 (noDict b o es ep q1 q2), q2, q3⟩
  have inK : K.In (hidT s1.heap H) := by
    intro b o q
    refine hidT_get (KX b o q) ?_
    by_cases hb0 : H b = none
    · exact hb0
    · have e1 := hA b hb0
      subst e1
      rw [hK hb0] at q
      cases q
  have hlim2 : (hidT s1.heap H).NoLimit := by
    obtain ⟨mc, q1, q2⟩ := hlim
    exact ⟨mc, ns2 _ _ q1, q2⟩
  have e0 : Env0 P w K mg (hidT s1.heap H) callerA [] s1 H :=
    ⟨rfl, ⟨inK, ns2 _ _ hns, ⟨mb, ns2 _ _ hb, hbb⟩, hlim2⟩, fun b o q => of_hidT q, Nat.le_of_eq (hidT_size _ _), trivial, fun b q => (List.not_mem_nil q).elim, hok, .of_eq hg⟩
  have run := (F _ inK (ns2 _ _ hns)).run callerA [] s1 H ⟨[.ref a], []⟩ [.ref a] [.ref a] _ _ rfl hr e0 (hbind s1 (.ref a)) (.cons rfl .nil) hsp
  refine codeAny_mono run fun r s' q => ?_
  match r, q with
  | .error e, q => exact (hCX H e s' q).elim
  | .ok (.ret u), q =>
    obtain ⟨v, H2, os, bare, un, hok2, rel, ev⟩ := q
    have ev2 : v = .bl true := ev
    subst ev2
    obtain rfl : u = Value.bool true := rel
    refine ⟨rfl, OldK.of_keep fun b o q1 => ?_, os, bare⟩
    rcases hO b with z | ⟨ob, xs, z⟩
    · exact un.keep b o q1 z (fun q2 => (List.not_mem_nil q2).elim) (fun q2 => (List.not_mem_nil q2).elim)
    · obtain ⟨g1, _⟩ := hok b _ z
      obtain ⟨g2, _⟩ := hok2 b _ (un.frzs b ob _ z)
      rw [q1] at g1
      cases g1
      exact g2

theorem lawG {P : Program} {w : World} {K : PySem.W.Frag} {mg mb : Str → Option Value} {CX : CXT} {k : Nat} {fa a : Addr} {fd : FuncData} {x : Str} {sp : Sp} {s1 : Shared} {vs : List Value} {ns : List Int}
    (KX : K.In s1.heap) (hns : s1.heap.Ns mainGlobals mg) (hb : s1.heap.Ns builtinsNs mb) (hbb : ∀ x : Str, x ≠ "__name__" → mb x = bootBuiltins x) (hlim : s1.heap.NoLimit) (hg : s1.gens = #[])
    (ha : s1.heap.get? a = some { cls := .type "list", data := .seq vs.toArray }) (hi : IntsAre vs ns) (hl : ns.length ≤ sizeLine) (hr : Room k callerA)
    (F : ∀ base : Heap, K.In base → base.Ns mainGlobals mg → FnG P w K mg base CX k fa fd [x] sp) (hbind : ∀ (s : Shared) (u : Value), BindsTo s fd ⟨[u], []⟩ [(x, u)])
    (hsp : ∀ H : Hp, Only H → SqL K H a (ns.map V.int) → sp [.ref a] H (fun v _ => v = .bl true) fun _ _ _ => False)
    (hCX : ∀ H e s', CX [] H s1 (fun _ _ _ => False) e s' → False) :
    codeAny (model P w) callerA (.call (.ref fa) ⟨[.ref a], []⟩) (fun r s' => r = .ok (.ret (.bool true)) ∧ OldK s1.heap s'.heap ∧ s'.os = s1.os ∧ AllBare s'.gens) s1 := by
  have vr := vals_ints hi
  have vl := hi.length
  by_cases hk : K.lookup a = none
  · have hat : ∀ u, (fun b => if b = a then some (HO.frz { cls := .type "list", data := .seq vs.toArray } (.lst (ns.map V.int))) else none) a = some u → u = HO.frz { cls := .type "list", data := .seq vs.toArray } (.lst (ns.map V.int)) := by
      intro u q
      have q2 := (if_pos rfl).symm.trans q
      cases q2
      rfl
    have hO : Only (fun b => if b = a then some (HO.frz { cls := .type "list", data := .seq vs.toArray } (.lst (ns.map V.int))) else none) := by
      intro b
      by_cases e : b = a
      · exact .inr ⟨_, _, if_pos e⟩
      · exact .inl (if_neg e)
    refine lawG_core KX hns hb hbb hlim hg ha hr F hbind hCX _ hO (fun b u q => ?_) (fun b q => ?_) (fun _ => hk) (hsp _ hO (.inl (.inr ⟨_, if_pos rfl⟩)))
    · by_cases e : b = a
      · subst e
        obtain rfl := hat u q
        exact ⟨ha, by rw [List.length_map]; exact hl, vs, _, vr, ha⟩
      · have q2 := (if_neg e).symm.trans q
        cases q2
    · by_cases e : b = a
      · exact e
      · exact absurd (if_neg e) q
  · obtain ⟨o, ho⟩ := Option.ne_none_iff_exists'.mp hk
    have q := KX a o ho
    rw [ha] at q
    cases q
    refine lawG_core KX hns hb hbb hlim hg ha hr F hbind hCX (fun _ => none) (fun _ => .inl rfl) (fun b u z => ?_) (fun b z => absurd rfl z) (fun z => absurd rfl z)
      (hsp _ (fun _ => .inl rfl) (.inr ⟨_, vs.toArray, _, ho, rfl, rfl, rfl, by rw [List.size_toArray, vl]; exact hl, by simpa using vr⟩))
    have z2 : (none : Option HO) = some u := z
    cases z2

theorem walkG {l : PySem.W.OpenLaw} {n k : Nat} {q : Program} {loose : List Str} {XP : (Str → Option Value) → Heap → Prop} {YP : World → Heap → Prop} {d : DefRec} {K : Params → PySem.W.Frag} {CX : World → CXT} {sp : World → Sp} {x : Str}
    (hn : l.most = some n) (hn2 : n ≤ sizeLine) (hdf : d.params.defaults = []) (hr : Room k callerA)
    (hY : ∀ (w : World) (h : Heap), YP w h → (K w.params).In h)
    (F : ∀ (w : World) (mg : Str → Option Value) (fa : Addr) (h : Heap), (K w.params).In h → h.Ns mainGlobals mg → mg d.name = some (.ref fa) →
      ∃ fd : FuncData, (∀ (s : Shared) (u : Value), BindsTo s fd ⟨[u], []⟩ [(x, u)]) ∧
        ∀ base : Heap, (K w.params).In base → base.Ns mainGlobals mg → FnG l.prog w (K w.params) mg base (CX w) k fa fd [x] (sp w))
    (hsp : ∀ (w : World) (H : Hp) (a : Addr) (ns : List Int), ns.length ≤ n → Only H → SqL (K w.params) H a (ns.map V.int) → sp w [.ref a] H (fun v _ => v = .bl true) fun _ _ _ => False)
    (hCX : ∀ (w : World) (H : Hp) (s : Shared) (e : Value) (s' : Shared), CX w [] H s (fun _ _ _ => False) e s' → False) :
    PySem.W.WalkO q loose XP YP l.row.toRowW d [] (fun f vs => PySem.call f vs) := by
  refine Att.attach_call hn hdf ?_
  intro w s0 s1 mg mb fa o pm cd doc a vs ns G Y ho hd hcd hmg hobj hints hlen hg
  have inK := hY w _ Y
  obtain ⟨fd, hb, hF⟩ := F w mg fa _ inK G.T.g hmg
  exact lawG inK G.T.g G.T.b G.T.builtins G.T.nolimit hg hobj hints (Nat.le_trans hlen hn2) hr hF hb (fun H hO hS => hsp w H a ns hlen hO hS) fun H e s' => hCX w H s1 e s'
end Cf

namespace Cf
open PySem PySem.Spec PyProof.Rows L2 Evl

/-! ## a def that callers know -/
structure Df (K : PySem.W.Frag) (mg : Str → Option Value) (x : Str) (st : Stmt) (ps : List Str) (f : Addr) (fd : FuncData) : Prop where
  F : Fun K x x st f fd
  g : mg x = some (.ref f)
  b : Binds K fd ps []
def Cl (P : Program) (w : World) (K : PySem.W.Frag) (mg : Str → Option Value) (base : Heap) (k : Nat) (x : Str) (ps : List Str) (sp : Sp) : Prop :=
  ∃ (f : Addr) (fd : FuncData), FnG P w K mg base CX0 k f fd ps sp ∧ mg x = some (.ref f) ∧ PySem.W.keepIn K (.ref f) = true ∧ Binds K fd ps []
section
variable {P : Program} {w : World} {K : PySem.W.Frag} {mg : Str → Option Value} {base : Heap}
theorem Cl.mk {k : Nat} {x : Str} {st : Stmt} {ps : List Str} {sp : Sp} {f : Addr} {fd : FuncData} (D : Df K mg x st ps f fd) (F : FnG P w K mg base CX0 k f fd ps sp) : Cl P w K mg base k x ps sp :=
  ⟨f, fd, F, D.g, D.F.kp, D.b⟩
theorem Cl.imp {k : Nat} {x : Str} {ps : List Str} {sp sp2 : Sp} (C : Cl P w K mg base k x ps sp) (h : ∀ vs H Q E, sp2 vs H Q E → sp vs H Q E) : Cl P w K mg base k x ps sp2 := by
  obtain ⟨f, fd, F, q⟩ := C
  exact ⟨f, fd, F.imp h, q⟩
/-- a body that nothing leaves -/
theorem df_ok {x : Str} {st : Stmt} {f : Addr} {fd : FuncData} {N ps : List Str} {k : Nat} {sp : Sp} (D : Df K mg x st ps f fd) (S : FnScope N ps (defScope st)) (len : ∀ vs H Q E, sp vs H Q E → vs.length = ps.length)
    (hbody : ∀ (cdv : Value) (A : Around) (outer : List Env) (s : Shared) (H : Hp) (vs : List V) (Q : VK) (E : XK), A.guards = some [] → Room k (A.deeper (envOfC x (defScope st) s.heap.objs.size f cdv)) → sp vs H Q E →
      ∃ t, PSs (cxOf CX0 P w K mg base N x (defScope st) f cdv A outer s H E).nox (defBody st) t ∧ t { nx := fun _ H' => Q .non H', rt := Q } (start N vs) H) : FnG P w K mg base CX0 (k + 1) f fd ps sp :=
  fun_okG D.F S len fun cdv A outer s H vs Q E hG hr hs => by
    obtain ⟨t, h, q⟩ := hbody cdv A outer s H vs Q E hG hr hs
    exact ⟨t, h.nox, q⟩
end
section
variable {X : Cx} {j k : Nat} {ps ks : List Str} {sp : Sp} {x : Str} {p pos : Pos} {e : Expr} {es : List Expr} {kws : List Keyword} {t tk : TA} {f : Addr} {fd : FuncData}
theorem pe_cl (C : Cl X.prog X.w X.K X.mg X.base j x ps sp) (hG : X.A.guards = some []) (hr : Room k X.A) (hg : Gl X x) (ha : PA X (e :: es) t) (hjk : j ≤ k := by decide)
    (hdb : (x == ("__debug__" : Str)) = false := by decide)
    (he : starEach (e :: es) X.env = (false, eval e X.env) :: starEach es X.env := by rfl)
    (hpl : (backTo pos (starEach es X.env)).any (·.1) = false := by rfl) : PE X (.Call (.Name x p) (e :: es) [] pos) (tCall sp [] E0 t) := by
  obtain ⟨f, fd, F, g, kp, b⟩ := C
  exact pe_g F hG (hr.mono hjk) hg g kp b .nil pass0 ha hdb he hpl
theorem pe_cl0 (C : Cl X.prog X.w X.K X.mg X.base j x ps sp) (hG : X.A.guards = some []) (hr : Room k X.A) (hg : Gl X x) (hjk : j ≤ k := by decide)
    (hdb : (x == ("__debug__" : Str)) = false := by decide) : PE X (.Call (.Name x p) [] [] pos) (tCall sp [] E0 tNil) := by
  obtain ⟨f, fd, F, g, kp, b⟩ := C
  exact pe_g0 F hG (hr.mono hjk) hg g kp b .nil pass0 hdb
/-- how a def takes its arguments by name -/
def KwC (K : PySem.W.Frag) (mg : Str → Option Value) (x : Str) (ps ks : List Str) (gV : List V → List V) : Prop :=
  ∀ (f : Addr) (fd : FuncData), mg x = some (.ref f) → (∃ g, KwB K fd ps ks g gV)
end
end Cf
namespace Cf
open PySem PySem.Spec PyProof.Rows L2 Evl
def Ck (P : Program) (w : World) (K : PySem.W.Frag) (mg : Str → Option Value) (base : Heap) (k : Nat) (x : Str) (ks : List Str) (gV : List V → List V) (sp : Sp) : Prop :=
  ∃ (f : Addr) (fd : FuncData) (ps : List Str) (g : List Value → List Value), FnG P w K mg base CX0 k f fd ps sp ∧ mg x = some (.ref f) ∧ PySem.W.keepIn K (.ref f) = true ∧ KwB K fd ps ks g gV
theorem Ck.mk {P : Program} {w : World} {K : PySem.W.Frag} {mg : Str → Option Value} {base : Heap} {k : Nat} {x : Str} {st : Stmt} {ps ks : List Str} {sp : Sp} {f : Addr} {fd : FuncData} {gV : List V → List V}
    (D : Df K mg x st ps f fd) (F : FnG P w K mg base CX0 k f fd ps sp) (g : List Value → List Value)
    (h : ∀ (kV doc pm : Value) (an : Option Addr) (cdv ct : Value) (ws : List Value), ws.length = ks.length → bindArgs (PySem.W.fnOf x x (defArgs st) (defBody st) (defScope st) .none kV doc pm an cdv ct) ⟨[], ks.zip ws⟩ = pure (ps.zip (g ws)))
    (rel : ∀ {zs : List V} {ws : List Value}, zs.length = ks.length → Vals zs ws → Vals (gV zs) (g ws)) : Ck P w K mg base k x ks gV sp :=
  ⟨f, fd, ps, g, F, D.g, D.F.kp, fun_kw D.F h rel⟩
section
variable {X : Cx} {j k : Nat} {ps ks : List Str} {sp : Sp} {x : Str} {p pos : Pos} {kws : List Keyword} {t tk : TA} {gV : List V → List V}
theorem pe_ck (C : Ck X.prog X.w X.K X.mg X.base j x ks gV sp) (hG : X.A.guards = some []) (hr : Room k X.A) (hg : Gl X x) (hkw : PK X kws tk) (hjk : j ≤ k := by decide)
    (hall : (backToKw pos (keywordEach kws X.env)).all (·.1.isSome) = true := by rfl)
    (hks : (backToKw pos (keywordEach kws X.env)).filterMap (·.1) = ks := by rfl)
    (hdb : (x == ("__debug__" : Str)) = false := by decide)
    (hpl : ((backTo pos (starEach [] X.env)).any (·.1) || (backToKw pos (keywordEach kws X.env)).any (·.1.isNone)) = false := by rfl) :
    PE X (.Call (.Name x p) [] kws pos) (tKw ks.length sp gV E0 tk) := by
  obtain ⟨f, fd, ps, g, F, gm, kp, b⟩ := C
  exact pe_gkw F hG (hr.mono hjk) hg gm kp b pass0 hkw hall hks hdb hpl
end
/-- a turn of a loop over enumerate(t) -/
theorem for_enumT {K : PySem.W.Frag} {a : Addr} {xs : List V} {g : TG} {tb : TS} {D : Ends} {σ : L2.St} {H : Hp} (Pv : Nat → L2.St → Hp → Prop) (h0 : Pv 0 σ H) (hl : ∀ i σ H, i ≤ xs.length → Pv i σ H → SqT K H a xs)
    (hq : ∀ i σ H T x, Pv i σ H → H T = none → Pv i σ (upd H T (.tup [.int (i : Nat), x])))
    (hs : ∀ i x T σ H, xs[i]? = some x → Pv i σ H → H T = some (.tup [.int (i : Nat), x]) → g (.ref T) σ H fun σ2 H2 => tb { D with nx := Pv (i + 1), ct := Pv (i + 1), bk := D.nx } σ2 H2) (hd : ∀ σ H, Pv xs.length σ H → D.nx σ H) :
    ∃ W : Nat → Nat → L2.St → Hp → Prop, (∃ m, W 0 m σ H) ∧ ∀ i m σ H, W i m σ H →
      ((IteT K a).stop i H ∧ D.nx σ H) ∨ ((IteT K a).go i H ∧ ∃ N : L2.St → Hp → Prop, (∀ σ' H', N σ' H' → ∃ m', m' < m ∧ W (i + 1) m' σ' H') ∧ ∀ x H', (IteT K a).yld i H x H' → g x σ H' fun σ2 H2 => tb { D with nx := N, ct := N, bk := D.nx } σ2 H2) := by
  refine ⟨fun i m σ H => m = xs.length - i ∧ i ≤ xs.length ∧ Pv i σ H, ⟨xs.length, by simp, Nat.zero_le _, h0⟩, ?_⟩
  intro i m σ H hw
  obtain ⟨rfl, hi, p⟩ := hw
  have q := hl i σ H hi p
  rcases Nat.lt_or_eq_of_le hi with hlt | he
  · refine .inr ⟨⟨xs, xs[i], q, List.getElem?_eq_getElem hlt⟩, Pv (i + 1), fun σ' H' p' => ⟨xs.length - (i + 1), by omega, rfl, hlt, p'⟩, fun v H' y => ?_⟩
    obtain ⟨T, x, rfl, hT, rfl, hx⟩ := y
    exact hs i x T σ _ (hx xs q) (hq i σ H T x p hT) upd_same
  · subst he
    exact .inl ⟨⟨xs, q, rfl⟩, hd σ H p⟩
end Cf

namespace Cf
open PySem PySem.Spec PyProof.Rows L2 Evl

/-! ## types and models, plainly -/
inductive Kd where
  | ch | sc | uc | sh | us | it | ui | lo | ul | wi | uw
  deriving DecidableEq
def Kd.s : Kd → Str
  | .ch => "char" | .sc => "schar" | .uc => "uchar" | .sh => "short" | .us => "ushort" | .it => "int" | .ui => "uint" | .lo => "long" | .ul => "ulong" | .wi => "wide" | .uw => "uwide"
def Kd.rk : Kd → Nat
  | .ch => 0 | .sc => 0 | .uc => 0 | .sh => 1 | .us => 1 | .it => 2 | .ui => 2 | .lo => 3 | .ul => 3 | .wi => 4 | .uw => 4
def Kd.all : List Kd := [.ch, .sc, .uc, .sh, .us, .it, .ui, .lo, .ul, .wi, .uw]
abbrev Kd.v (k : Kd) : V := .str k.s
structure Md where
  w0 : Nat
  w1 : Nat
  w2 : Nat
  w3 : Nat
  w4 : Nat
  u : Bool
structure Md.Ok (m : Md) : Prop where
  h0 : 2 ≤ m.w0
  h1 : m.w0 ≤ m.w1
  h2 : m.w1 ≤ m.w2
  h3 : m.w2 ≤ m.w3
  h4 : m.w3 ≤ m.w4
  h5 : m.w4 ≤ 128
def Md.w (m : Md) : Nat → Nat
  | 0 => m.w0 | 1 => m.w1 | 2 => m.w2 | 3 => m.w3 | _ => m.w4
def Md.ns (m : Md) : List Int := [m.w0, m.w1, m.w2, m.w3, m.w4]
abbrev Md.ws (m : Md) : List V := m.ns.map V.int
def plS (u : Bool) : Str := if u then "u" else "s"
def Md.b (m : Md) (k : Kd) : Nat := m.w k.rk
def Md.un (m : Md) : Kd → Bool
  | .ch => m.u | .uc => true | .us => true | .ui => true | .ul => true | .uw => true | _ => false
def Md.low (m : Md) (k : Kd) : Int := if m.un k then 0 else -(2 ^ (m.b k - 1))
def Md.high (m : Md) (k : Kd) : Int := if m.un k then 2 ^ m.b k - 1 else 2 ^ (m.b k - 1) - 1
theorem Md.Ok.bnd {m : Md} (h : m.Ok) (i : Nat) : 2 ≤ m.w i ∧ m.w i ≤ 128 := by
  obtain ⟨h0, h1, h2, h3, h4, h5⟩ := h
  match i with
  | 0 => simp only [Md.w]; omega
  | 1 => simp only [Md.w]; omega
  | 2 => simp only [Md.w]; omega
  | 3 => simp only [Md.w]; omega
  | n + 4 => simp only [Md.w]; omega
theorem Md.Ok.b {m : Md} (h : m.Ok) (k : Kd) : 2 ≤ m.b k ∧ m.b k ≤ 128 := h.bnd _
theorem Md.at_ {m : Md} {i : Nat} (h : i < 5) : m.ws[i]? = some (.int (m.w i)) := by
  match i, h with
  | 0, _ => rfl
  | 1, _ => rfl
  | 2, _ => rfl
  | 3, _ => rfl
  | 4, _ => rfl
theorem Kd.rk_lt (k : Kd) : k.rk < 5 := by cases k <;> decide

/-- a model stands at p -/
def AtM (K : PySem.W.Frag) (H : Hp) (p : Addr) (m : Md) : Prop := ∃ q, SqT K H p [.ref q, .str (plS m.u)] ∧ SqT K H q m.ws
theorem AtM.ex {K : PySem.W.Frag} {H H' : Hp} {p : Addr} {m : Md} (e : Ex H H') (h : AtM K H p m) : AtM K H' p m := by
  obtain ⟨q, a, b⟩ := h
  exact ⟨q, ex_t e a, ex_t e b⟩

/-! ## the module's constants -/
def CT (K : PySem.W.Frag) (mg : Str → Option Value) (x : Str) (xs : List V) : Prop := ∃ a, mg x = some (.ref a) ∧ ∀ H, SqT K H a xs
def CI (mg : Str → Option Value) (x : Str) (i : Int) : Prop := ∃ t, mg x = some (.int i t)
def CR5 (K : PySem.W.Frag) (w : World) (mg : Str → Option Value) : Prop := ∃ a, mg "RANKS" = some (.ref a) ∧ ∀ k : Kd, KDct K w a k.s (.int k.rk)
def vKINDS : List V := Kd.all.map Kd.v
def vSIGNED : List V := [Kd.sc.v, Kd.sh.v, Kd.it.v, Kd.lo.v, Kd.wi.v]
def vUNSIGNED : List V := [Kd.uc.v, Kd.us.v, Kd.ui.v, Kd.ul.v, Kd.uw.v]
def vPLAIN : List V := [.str "s", .str "u"]
section
variable {X : Cx} {pos : Pos}
theorem pe_ct {x : Str} {xs : List V} (hg : Gl X x) (c : CT X.K X.mg x xs) (hd : (x == ("__debug__" : Str)) = false := by decide) : PE X (.Name x pos) (fun σ H Q => ∀ a, SqT X.K H a xs → Q (.ref a) H) := by
  obtain ⟨a, e, q⟩ := c
  constructor
  intro pins s σ H Q I h
  exact (pe_glob (v := .ref a) hg e rfl hd).run pins s σ H Q I (h a (q H))
theorem pe_ci {x : Str} {i : Int} (hg : Gl X x) (c : CI X.mg x i) (hd : (x == ("__debug__" : Str)) = false := by decide) : PE X (.Name x pos) (tC (.int i)) := by
  obtain ⟨t, e⟩ := c
  exact pe_glob hg e ⟨t, rfl⟩ hd
end
/-! ## promises -/
/-- what a pure def gives -/
def PV (pre : List V → Hp → V → Prop) : Sp := fun vs H Q _ => ∃ v, pre vs H v ∧ ∀ H', Ex H H' → Q v H'
def PU (pre : List V → Hp → List V → Prop) : Sp := fun vs H Q _ => ∃ xs, pre vs H xs ∧ ∀ p H', H p = none → Ex H H' → H' p = some (.tup xs) → Q (.ref p) H'
def PL (pre : List V → Hp → List V → Prop) : Sp := fun vs H Q _ => ∃ xs, pre vs H xs ∧ ∀ p H', H p = none → Ex H H' → H' p = some (.lst xs) → Q (.ref p) H'
theorem PV.sp {pre : List V → Hp → V → Prop} {vs : List V} {H : Hp} {v : V} (h : ∀ H1, Ex H H1 → pre vs H1 v) : SpV (PV pre) vs H v := fun H1 e Q q E => ⟨v, h H1 e, q⟩
/-- a def of a model and a type -/
def preMK (K : PySem.W.Frag) (g : Md → Kd → V) : List V → Hp → V → Prop := fun vs H v => ∃ p m k, vs = [.ref p, k.v] ∧ AtM K H p m ∧ m.Ok ∧ v = g m k
def preMU (K : PySem.W.Frag) (g : Md → Kd → List V) : List V → Hp → List V → Prop := fun vs H v => ∃ p m k, vs = [.ref p, k.v] ∧ AtM K H p m ∧ m.Ok ∧ v = g m k
def preMKI (K : PySem.W.Frag) (g : Md → Kd → Int → V) : List V → Hp → V → Prop := fun vs H v => ∃ p m k i, vs = [.ref p, k.v, .int i] ∧ AtM K H p m ∧ m.Ok ∧ v = g m k i
def preMKK (K : PySem.W.Frag) (g : Md → Kd → Kd → V) : List V → Hp → V → Prop := fun vs H v => ∃ p m k l, vs = [.ref p, k.v, l.v] ∧ AtM K H p m ∧ m.Ok ∧ v = g m k l
def preM (K : PySem.W.Frag) : List V → Hp → V → Prop := fun vs H v => ∃ p m, vs = [.ref p] ∧ AtM K H p m ∧ m.Ok ∧ v = .non
def preW (K : PySem.W.Frag) : List V → Hp → V → Prop := fun vs H v => ∃ p m, vs = [.ref p] ∧ SqT K H p (Md.ws m) ∧ m.Ok ∧ v = .non
def preK : List V → Hp → V → Prop := fun vs H v => ∃ k : Kd, vs = [k.v] ∧ v = .non
theorem spMK {K : PySem.W.Frag} {g : Md → Kd → V} {H : Hp} {p : Addr} {m : Md} {k : Kd} (a : AtM K H p m) (o : m.Ok) : SpV (PV (preMK K g)) [.ref p, k.v] H (g m k) := PV.sp fun H1 e => ⟨p, m, k, rfl, a.ex e, o, rfl⟩
theorem spMKI {K : PySem.W.Frag} {g : Md → Kd → Int → V} {H : Hp} {p : Addr} {m : Md} {k : Kd} {i : Int} (a : AtM K H p m) (o : m.Ok) : SpV (PV (preMKI K g)) [.ref p, k.v, .int i] H (g m k i) := PV.sp fun H1 e => ⟨p, m, k, i, rfl, a.ex e, o, rfl⟩
theorem spMKK {K : PySem.W.Frag} {g : Md → Kd → Kd → V} {H : Hp} {p : Addr} {m : Md} {k l : Kd} (a : AtM K H p m) (o : m.Ok) : SpV (PV (preMKK K g)) [.ref p, k.v, l.v] H (g m k l) := PV.sp fun H1 e => ⟨p, m, k, l, rfl, a.ex e, o, rfl⟩
theorem spM {K : PySem.W.Frag} {H : Hp} {p : Addr} {m : Md} (a : AtM K H p m) (o : m.Ok) : SpV (PV (preM K)) [.ref p] H .non := PV.sp fun H1 e => ⟨p, m, rfl, a.ex e, o, rfl⟩
theorem spW {K : PySem.W.Frag} {H : Hp} {p : Addr} {m : Md} (a : SqT K H p m.ws) (o : m.Ok) : SpV (PV (preW K)) [.ref p] H .non := PV.sp fun H1 e => ⟨p, m, rfl, ex_t e a, o, rfl⟩
theorem spK {H : Hp} {k : Kd} : SpV (PV preK) [k.v] H .non := PV.sp fun H1 e => ⟨k, rfl, rfl⟩
/-- a call's tuple -/
def SpU (sp : Sp) (vs : List V) (H : Hp) (xs : List V) : Prop := ∀ H1, Ex H H1 → ∀ Q : VK, (∀ p H2, H1 p = none → Ex H1 H2 → H2 p = some (.tup xs) → Q (.ref p) H2) → ∀ E : XK, sp vs H1 Q E
theorem spMU {K : PySem.W.Frag} {g : Md → Kd → List V} {H : Hp} {p : Addr} {m : Md} {k : Kd} (a : AtM K H p m) (o : m.Ok) : SpU (PU (preMU K g)) [.ref p, k.v] H (g m k) := fun H1 e Q q E => ⟨_, ⟨p, m, k, rfl, a.ex e, o, rfl⟩, q⟩
theorem eu_call {σ : L2.St} {H : Hp} {sp : Sp} {dvs vs xs : List V} {E : XK} {ta : TA} (h : EvA ta σ H vs) (hs : SpU sp (vs ++ dvs) H xs) : EvU (tCall sp dvs E ta) σ H xs := fun H1 e Q q =>
  h H1 e _ fun H2 e2 => hs H2 (e.trans e2) Q (fun p H3 hp e3 h3 => q p H3 (fresh_back e2 hp) (e2.trans e3) h3) E
theorem ev_ct {K : PySem.W.Frag} {σ : L2.St} {H : Hp} {xs : List V} {r : R2} {ta : TE} {x z : V} (ha : Ev ta σ H x) (hr : ∀ a H1, Ex H H1 → SqT K H1 a xs → RV r x (.ref a) H1 z) :
    Ev (tOp r ta (fun σ H Q => ∀ a, SqT K H a xs → Q (.ref a) H)) σ H z := fun H1 e Q q =>
  ha H1 e _ fun H2 e2 => fun a t => hr a H2 (e.trans e2) t H2 (Ex.refl H2) Q fun H3 e3 => q H3 (e2.trans e3)
theorem pre_len1 {pre : List V → Hp → V → Prop} {n : Nat} (h : ∀ vs H v, pre vs H v → vs.length = n) : ∀ vs H Q E, PV pre vs H Q E → vs.length = n := fun vs H Q E q => by
  obtain ⟨v, a, _⟩ := q
  exact h _ _ _ a
theorem pre_lenU {pre : List V → Hp → List V → Prop} {n : Nat} (h : ∀ vs H v, pre vs H v → vs.length = n) : ∀ vs H Q E, PU pre vs H Q E → vs.length = n := fun vs H Q E q => by
  obtain ⟨v, a, _⟩ := q
  exact h _ _ _ a
end Cf

namespace Cf
open PySem PySem.Spec PyProof.Rows L2 Evl

/-! ## the draws -/
/-- all but the object at r is as it was -/
def Bu (r : Addr) (H H' : Hp) : Prop := ∀ b o, b ≠ r → H b = some o → H' b = some o
theorem Bu.refl (r : Addr) (H : Hp) : Bu r H H := fun _ _ _ h => h
theorem Bu.trans {r : Addr} {H H1 H2 : Hp} (a : Bu r H H1) (b : Bu r H1 H2) : Bu r H H2 := fun c o n h => b c o n (a c o n h)
theorem Bu.of {r : Addr} {H H1 : Hp} (a : Ex H H1) : Bu r H H1 := fun c o _ h => a c o h
theorem Bu.upd {r : Addr} {H : Hp} {o : HO} : Bu r H (upd H r o) := fun c u n h => by rw [upd_ne n]; exact h
theorem Bu.l {K : PySem.W.Frag} {r a : Addr} {H H1 : Hp} {xs : List V} (e : Bu r H H1) (n : a ≠ r) (h : SqL K H a xs) : SqL K H1 a xs := by
  rcases h with (h | ⟨o, h⟩) | h
  · exact .inl (.inl (e _ _ n h))
  · exact .inl (.inr ⟨o, e _ _ n h⟩)
  · exact .inr h
def Rng (H : Hp) (r : Addr) (n : Nat) : Prop := ∃ d s c : Int, H r = some (.lst [.int d, .int s, .int c]) ∧ s.natAbs < 2 ^ 70 ∧ 0 ≤ c ∧ c ≤ n
theorem Rng.ex {H H' : Hp} {r : Addr} {n : Nat} (h : Rng H r n) (e : Ex H H') : Rng H' r n := by
  obtain ⟨d, s, c, a, b⟩ := h
  exact ⟨d, s, c, e _ _ a, b⟩
theorem Rng.le {H : Hp} {r : Addr} {n k : Nat} (h : Rng H r n) (l : n ≤ k) : Rng H r k := by
  obtain ⟨d, s, c, a, b1, b2, b3⟩ := h
  exact ⟨d, s, c, a, b1, b2, by omega⟩
/-- a tuple is no list: it stands elsewhere -/
theorem Rng.ne_tup {H : Hp} {r p : Addr} {n : Nat} {xs : List V} (h : Rng H r n) (t : H p = some (.tup xs)) : p ≠ r := by
  obtain ⟨d, s, c, a, _⟩ := h
  exact ne_of t a (fun z => by cases z)
theorem Bu.t {K : PySem.W.Frag} {r a : Addr} {n : Nat} {H H1 : Hp} {xs : List V} (e : Bu r H H1) (g : Rng H r n) (h : SqT K H a xs) : SqT K H1 a xs := by
  rcases h with (h | ⟨o, h⟩) | h
  · exact .inl (.inl (e _ _ (g.ne_tup h) h))
  · refine .inl (.inr ⟨o, e _ _ ?_ h⟩)
    obtain ⟨d, s, c, q, _⟩ := g
    exact ne_of h q (fun z => by cases z)
  · exact .inr h
theorem AtM.bu {K : PySem.W.Frag} {r p : Addr} {n : Nat} {H H1 : Hp} {m : Md} (e : Bu r H H1) (g : Rng H r n) (h : AtM K H p m) : AtM K H1 p m := by
  obtain ⟨q, a, b⟩ := h
  exact ⟨q, e.t g a, e.t g b⟩
def spDraw : Sp := fun vs H Q _ => ∃ r l n, vs = [.ref r, .int l] ∧ 0 < l ∧ l.natAbs.log2 < 9000 ∧ n < 2 ^ 60 ∧ Rng H r n ∧ ∀ H' v, Bu r H H' → Rng H' r (n + 1) → 0 ≤ v → v < l → Q (.int v) H'
def spRng (K : PySem.W.Frag) : Sp := fun vs H Q _ => ∃ (a : Addr) (ns : List Int), vs = [.ref a] ∧ SqL K H a (ns.map V.int) ∧ ns.length ≤ 63 ∧ ∀ r H', H r = none → Ex H H' → Rng H' r 0 → Q (.ref r) H'
theorem cut_mem {xs : List V} {lo hi : Option Int} {x : V} (h : x ∈ cutV xs lo hi) : x ∈ xs := by
  unfold cutV at h
  exact List.mem_of_mem_drop (List.mem_of_mem_take h)
theorem pow10_step (n : Nat) : (10 : Int) ^ (60 * (n + 1)) = 10 ^ (60 * n) * 10 ^ 60 := by
  rw [Nat.mul_succ, Int.pow_add]
theorem big10 : (10 : Nat) ^ 3780 ≤ 2 ^ 13000 := by decide +kernel
theorem pow10_bits {n : Nat} (h : n ≤ 63) {d : Int} (h0 : 0 ≤ d) (h1 : d < 10 ^ (60 * n)) : d.natAbs < 2 ^ 13000 := by
  have e1 : (10 : Nat) ^ (60 * n) ≤ 10 ^ 3780 := Nat.pow_le_pow_right (by decide) (by omega)
  have e2 : d.natAbs < 10 ^ (60 * n) := by
    have e3 : ((10 : Int) ^ (60 * n)) = ((10 ^ (60 * n) : Nat) : Int) := by
      rw [Int.natCast_pow]
      rfl
    rw [e3] at h1
    omega
  exact Nat.lt_of_lt_of_le e2 (Nat.le_trans e1 big10)
end Cf

namespace Cf
open PySem PySem.Spec PyProof.Rows L2 Evl

/-! ## repr of small data -/
mutual
def Sm : PyData → Prop
  | .none => True
  | .bool _ => True
  | .int i => i.natAbs < 2 ^ 140
  | .str x => x.cps.size ≤ 30 ∧ (x.cps.toList.all fun c => decide (c < 16 ^ 8)) = true
  | .list xs => SmAll xs
  | .tuple xs => SmAll xs
  | .dict _ => False
def SmAll : List PyData → Prop
  | [] => True
  | x :: xs => Sm x ∧ SmAll xs
end
mutual
def szD : PyData → Nat
  | .list xs => 1 + szAll xs
  | .tuple xs => 1 + szAll xs
  | _ => 1
def szAll : List PyData → Nat
  | [] => 0
  | x :: xs => szD x + szAll xs
end
theorem int_len {i : Int} (h : i.natAbs < 2 ^ 140) : (PyData.shown (.int i)).length ≤ 141 := by
  have h1 := int_text_length_le (a := i) (k := 140) (by decide) (PySem.Flt.log2_lt_of (by decide) h)
  simp only [PyData.shown]
  show (Str.ofString (toString i)).length ≤ 141
  have e : (Str.ofString (toString i)).length = (toString i).length := PySem.ofString_length _
  omega
mutual
theorem sm_all : ∀ d : PyData, Sm d → d.showable = true ∧ d.hasDict = false ∧ d.leavesShort 141 = true ∧ d.weight + 1 ≤ 142 * szD d
  | .none, _ => ⟨by simp only [PyData.showable], by simp only [PyData.hasDict], by simp only [PyData.leavesShort], by simp only [PyData.weight, szD]; omega⟩
  | .bool _, _ => ⟨by simp only [PyData.showable], by simp only [PyData.hasDict], by simp only [PyData.leavesShort], by simp only [PyData.weight, szD]; omega⟩
  | .int i, h => by
    have h1 : i.natAbs < 2 ^ 140 := h
    have h2 : i.natAbs.log2 < 140 := PySem.Flt.log2_lt_of (by decide) h1
    refine ⟨?_, by simp only [PyData.hasDict], ?_, ?_⟩
    · simp only [PyData.showable]
      exact decide_eq_true (by omega)
    · simp only [PyData.leavesShort]
      exact decide_eq_true (int_len h1)
    · simp only [PyData.weight, szD]
      split <;> omega
  | .str x, h => by
    have h1 : x.cps.size ≤ 30 ∧ (x.cps.toList.all fun c => decide (c < 16 ^ 8)) = true := h
    refine ⟨by simp only [PyData.showable], by simp only [PyData.hasDict], ?_, ?_⟩
    · simp only [PyData.leavesShort]
      exact h1.2
    · simp only [PyData.weight, szD]
      omega
  | .list xs, h => by
    obtain ⟨a, b, c, e⟩ := sm_alls xs h
    refine ⟨by simp only [PyData.showable]; exact a, by simp only [PyData.hasDict]; exact b, by simp only [PyData.leavesShort]; exact c, ?_⟩
    simp only [PyData.weight, szD]
    omega
  | .tuple xs, h => by
    obtain ⟨a, b, c, e⟩ := sm_alls xs h
    refine ⟨by simp only [PyData.showable]; exact a, by simp only [PyData.hasDict]; exact b, by simp only [PyData.leavesShort]; exact c, ?_⟩
    simp only [PyData.weight, szD]
    omega
  | .dict _, h => h.elim
theorem sm_alls : ∀ ds : List PyData, SmAll ds → PyData.showableAll ds = true ∧ PyData.hasDictAll ds = false ∧ PyData.leavesShortAll 141 ds = true ∧ PyData.weightAll ds ≤ 142 * szAll ds
  | [], _ => ⟨by simp only [PyData.showableAll], by simp only [PyData.hasDictAll], by simp only [PyData.leavesShortAll], by simp only [PyData.weightAll]; omega⟩
  | x :: xs, h => by
    obtain ⟨a1, b1, c1, e1⟩ := sm_all x h.1
    obtain ⟨a2, b2, c2, e2⟩ := sm_alls xs h.2
    refine ⟨by simp only [PyData.showableAll, a1, a2]; rfl, by simp only [PyData.hasDictAll, b1, b2]; rfl, by simp only [PyData.leavesShortAll, c1, c2]; rfl, ?_⟩
    simp only [PyData.weightAll, szAll]
    omega
end
theorem sm_len {d : PyData} (h : Sm d) (z : szD d ≤ 800) : d.shown.length ≤ sizeLine := by
  obtain ⟨_, _, c, e⟩ := sm_all d h
  have h1 := PyData.shown_le 141 (by decide) d c
  have h2 := sizeLine_eq
  omega
mutual
theorem dp_ex {K : PySem.W.Frag} {H H' : Hp} (e : Ex H H') : ∀ (d : PyData) (v : V), Dp K H v d → Dp K H' v d
  | .none, _, h => by
    cases h
    exact .non
  | .bool b, _, h => by
    cases h
    exact .bl b
  | .int i, _, h => by
    cases h
    exact .int i
  | .str x, _, h => by
    cases h
    exact .str x
  | .list ds, _, h => by
    cases h with
    | lst a b => exact .lst (ex_l e a) (dps_ex e ds _ b)
  | .tuple ds, _, h => by
    cases h with
    | tup a b => exact .tup (ex_t e a) (dps_ex e ds _ b)
  | .dict _, _, h => nomatch h
theorem dps_ex {K : PySem.W.Frag} {H H' : Hp} (e : Ex H H') : ∀ (ds : List PyData) (vs : List V), DpAll K H vs ds → DpAll K H' vs ds
  | [], _, h => by
    cases h
    exact .nil
  | x :: xs, _, h => by
    cases h with
    | cons a b => exact .cons (dp_ex e x _ a) (dps_ex e xs _ b)
end
section
variable {K : PySem.W.Frag} {σ : L2.St} {H : Hp} {ta : TE} {a : Addr} {d : PyData} {xs : List V}
theorem ev_repr (ha : Ev ta σ H (.ref a)) (hd : Dp K H (.ref a) d) (hs : Sm d) (hz : szD d ≤ 800) (hp : d.depth ≤ 60) : Ev (tCB (rRepr K) (tCons ta tNil)) σ H (.str d.shown) := fun H1 e Q q =>
  ha H1 e _ fun H2 e2 => ⟨a, d, rfl, dp_ex (e.trans e2) d _ hd, (sm_all d hs).1, (sm_all d hs).2.1, sm_len hs hz, hp, q H2 e2⟩
theorem ev_reprN (ha : EvL ta σ H xs) (hd : ∀ H1, Ex H H1 → DpAll K H1 xs (match d with | .list ds => ds | _ => [])) (hl : ∃ ds, d = .list ds) (hs : Sm d) (hz : szD d ≤ 800) (hp : d.depth ≤ 60) :
    Ev (tCB (rRepr K) (tCons ta tNil)) σ H (.str d.shown) := fun H1 e Q q =>
  ha H1 e _ fun p H2 _ e2 h2 => by
    obtain ⟨ds, rfl⟩ := hl
    exact ⟨p, .list ds, rfl, .lst (sq_of h2) (hd H2 (e.trans e2)), (sm_all _ hs).1, (sm_all _ hs).2.1, sm_len hs hz, hp, q H2 e2⟩
theorem dp_ints {H : Hp} : ∀ ns : List Int, DpAll K H (ns.map V.int) (ns.map PyData.int)
  | [] => .nil
  | n :: ns => .cons (.int n) (dp_ints ns)
theorem AtM.dp {p : Addr} {m : Md} (h : AtM K H p m) : Dp K H (.ref p) (.tuple [.tuple (m.ns.map PyData.int), .str (plS m.u)]) := by
  obtain ⟨q, a, b⟩ := h
  exact .tup a (.cons (.tup b (dp_ints _)) (.cons (.str _) .nil))
theorem Md.sm {m : Md} (h : m.Ok) : Sm (.tuple [.tuple (m.ns.map PyData.int), .str (plS m.u)]) := by
  obtain ⟨h0, h1, h2, h3, h4, h5⟩ := h
  have hs : Sm (.str (plS m.u)) := by
    cases m.u
    · exact ⟨by decide, by decide⟩
    · exact ⟨by decide, by decide⟩
  refine ⟨⟨?_, ?_, ?_, ?_, ?_, trivial⟩, hs, trivial⟩
  · show ((m.w0 : Nat) : Int).natAbs < 2 ^ 140
    omega
  · show ((m.w1 : Nat) : Int).natAbs < 2 ^ 140
    omega
  · show ((m.w2 : Nat) : Int).natAbs < 2 ^ 140
    omega
  · show ((m.w3 : Nat) : Int).natAbs < 2 ^ 140
    omega
  · show ((m.w4 : Nat) : Int).natAbs < 2 ^ 140
    omega
end
end Cf

namespace Cf
open PySem PySem.Spec PyProof.Rows L2 Evl
section
variable {K : PySem.W.Frag} {σ : L2.St} {H : Hp} {ta tb tc te : TE} {tr tk : TA} {x z : V} {xs zs : List V} {a b c : Int} {sp : Sp} {m : Nat} {gV : List V → List V} {E : XK}
theorem ev_kw (h : EvA tk σ H zs) (hl : zs.length = m) (hs : SpV sp (gV zs) H z) : Ev (tKw m sp gV E tk) σ H z := fun H1 e Q q =>
  h H1 e _ fun H2 e2 => ⟨hl, hs H2 (e.trans e2) Q (fun H3 e3 => q H3 (e2.trans e3)) E⟩
theorem eu_kw (h : EvA tk σ H zs) (hl : zs.length = m) (hs : SpU sp (gV zs) H xs) : EvU (tKw m sp gV E tk) σ H xs := fun H1 e Q q =>
  h H1 e _ fun H2 e2 => ⟨hl, hs H2 (e.trans e2) Q (fun p H3 hp e3 h3 => q p H3 (fresh_back e2 hp) (e2.trans e3) h3) E⟩
theorem ea_at {Q : List V → Hp → Prop} (h : Ev te σ H x) (k : ∀ H1, Ex H H1 → tr σ H1 fun xs H2 => Q (x :: xs) H2) : tCons te tr σ H Q := h H (Ex.refl H) _ k
theorem ea_atU {Q : List V → Hp → Prop} (h : EvU te σ H xs) (k : ∀ p H1, H p = none → Ex H H1 → H1 p = some (.tup xs) → tr σ H1 fun ys H2 => Q (.ref p :: ys) H2) : tCons te tr σ H Q := h H (Ex.refl H) _ k
theorem ea_atL {Q : List V → Hp → Prop} (h : EvL te σ H xs) (k : ∀ p H1, H p = none → Ex H H1 → H1 p = some (.lst xs) → tr σ H1 fun ys H2 => Q (.ref p :: ys) H2) : tCons te tr σ H Q := h H (Ex.refl H) _ k
theorem ev_chLe (ha : Ev ta σ H (.int a)) (hb : Ev tb σ H (.int b)) (hc : Ev tc σ H (.int c)) :
    Ev (tChain (rI0 fun i j => .bl (decide (i ≤ j))) (rI0 fun i j => .bl (decide (i ≤ j))) ta tb tc) σ H (.bl (decide (a ≤ b ∧ b ≤ c))) := fun H1 e Q q =>
  ha H1 e _ fun H2 e2 => hb H2 (e.trans e2) _ fun H3 e3 => ⟨a, b, rfl, rfl, _, rfl, by
    have e4 := (e.trans e2).trans e3
    by_cases h1 : a ≤ b
    · rw [decide_eq_true h1]
      refine iteT (hc H3 e4 _ fun H4 e5 => ⟨b, c, rfl, rfl, ?_⟩)
      have e6 : decide (b ≤ c) = decide (a ≤ b ∧ b ≤ c) := by
        by_cases h2 : b ≤ c
        · rw [decide_eq_true h2, decide_eq_true ⟨h1, h2⟩]
        · rw [decide_eq_false h2, decide_eq_false fun z => h2 z.2]
      show Q (.bl (decide (b ≤ c))) H4
      rw [e6]
      exact q H4 ((e2.trans e3).trans e5)
    · rw [decide_eq_false h1]
      refine iteF ?_
      have e6 : decide (a ≤ b ∧ b ≤ c) = false := decide_eq_false fun z => h1 z.1
      rw [e6] at q
      exact q H3 (e2.trans e3)⟩
theorem q_par {tz : TS} {D : Ends} {i j : Nat} {y : V} (ha : Ev ta σ H x) (hb : Ev tb σ H y) (k : ∀ H1, Ex H H1 → tz D ((σ.set i (some x)).set j (some y)) H1) : tSeq (tPar i j (tCons ta (tCons tb tNil))) tz D σ H :=
  ha H (Ex.refl H) _ fun H1 e1 => hb H1 e1 _ fun H2 e2 => ⟨x, y, rfl, k H2 (e1.trans e2)⟩
theorem q_raw {tz : TS} {D : Ends} {i : Nat} (h : te σ H fun x H1 => tz D (σ.set i (some x)) H1) : tSeq (tAsg te (gName i)) tz D σ H := h
theorem lst_raw {Q : VK} (h : tr σ H fun xs H1 => xs.length ≤ sizeLine ∧ ∀ p, H1 p = none → Q (.ref p) (upd H1 p (.lst xs))) : tLst tr σ H Q := h
theorem tup_raw {Q : VK} (h : tr σ H fun xs H1 => xs.length ≤ sizeLine ∧ ∀ p, H1 p = none → Q (.ref p) (upd H1 p (.tup xs))) : tTup tr σ H Q := h
theorem ev_reprL {ds : List PyData} (ha : EvL ta σ H xs) (hd : ∀ H1, Ex H H1 → DpAll K H1 xs ds) (hs : SmAll ds) (hz : szD (.list ds) ≤ 800) (hp : (PyData.list ds).depth ≤ 60) :
    Ev (tCB (rRepr K) (tCons ta tNil)) σ H (.str (PyData.shown (.list ds))) := fun H1 e Q q =>
  ha H1 e _ fun p H2 _ e2 h2 => ⟨p, .list ds, rfl, .lst (sq_of h2) (hd H2 (e.trans e2)), (sm_all (.list ds) hs).1, (sm_all (.list ds) hs).2.1, sm_len (d := .list ds) hs hz, hp, q H2 e2⟩
theorem q_newL {t u : TS} {D : Ends} {p : Addr} (n : H p = none) (k : ∀ H', Ex H H' → H' p = some (.lst xs) → tSeq t u D σ H') : tSeq t u D σ (upd H p (.lst xs)) := k _ (Ex.new n) upd_same
theorem q_newT {t u : TS} {D : Ends} {p : Addr} (n : H p = none) (k : ∀ H', Ex H H' → H' p = some (.tup xs) → tSeq t u D σ H') : tSeq t u D σ (upd H p (.tup xs)) := k _ (Ex.new n) upd_same
theorem op_raw {r : R2} {Q : VK} (h : ta σ H fun x H1 => tb σ H1 fun y H2 => r x y H2 Q) : tOp r ta tb σ H Q := h
theorem test_raw {Q : Bool → Hp → Prop} (h : te σ H fun x H' => ∃ k, x = .bl k ∧ Q k H') : tTest te σ H Q := h
theorem if_raw {t : TT} {u v : TS} {D : Ends} (h : t σ H fun b H1 => if b = true then u D σ H1 else v D σ H1) : tIfS t u v D σ H := h
theorem lc_go {g : TG} {tt : TT} {vs : List Nat} {Q : VK} (hl : EvL ta σ H xs) (Pv : Addr → Addr → Nat → Hp → Prop)
    (h0 : ∀ a D H1, H a = none → Ex H H1 → H1 a = some (.lst xs) → H1 D = none → Pv a D 0 (upd H1 D (.lst [])))
    (hk : ∀ a D i H', i ≤ xs.length → Pv a D i H' → SqL K H' a xs)
    (hs : ∀ a D i x H', xs[i]? = some x → Pv a D i H' → g x (wipe σ vs) H' fun σ2 H2 => wipe σ2 vs = wipe σ vs ∧ tt σ2 H2 fun b H3 =>
      if b = true then te σ2 H3 fun y H4 => ∃ acc, H4 D = some (.lst acc) ∧ acc.length < sizeLine ∧ Pv a D (i + 1) (upd H4 D (.lst (acc ++ [y]))) else Pv a D (i + 1) H3)
    (hd : ∀ a D H', Pv a D xs.length H' → Q (.ref D) H') : tLc (iList K ta) g tt te vs σ H Q :=
  hl H (Ex.refl H) _ fun a H1 n1 e1 h1 => ⟨a, rfl, ⟨xs, sq_of h1⟩, fun D nD => lc_list (Pv a D) (h0 a D H1 n1 e1 h1 nD) (hk a D) (hs a D) (hd a D)⟩
theorem ev_pair {d e : PyData} (h1 : Ev ta σ H (.str d.shown)) (h2 : Ev tb σ H (.str e.shown)) (h : d = e) : Ev (tOp rNe ta tb) σ H (.bl false) := by
  subst h
  refine ev_is (ev_op h1 h2 (rv_ne rfl)) ?_
  rw [decide_eq_true rfl]
  rfl
end
def gV2 : List V → List V
  | [a, b] => [b, a]
  | _ => []
def gU2 : List Value → List Value
  | [a, b] => [b, a]
  | _ => []
def gV3 : List V → List V
  | [a, b, c] => [c, b, a]
  | _ => []
def gU3 : List Value → List Value
  | [a, b, c] => [c, b, a]
  | _ => []
theorem g2_rel : ∀ {zs : List V} {ws : List Value}, zs.length = 2 → Vals zs ws → Vals (gV2 zs) (gU2 ws)
  | [_, _], [_, _], _, .cons a (.cons b .nil) => .cons b (.cons a .nil)
theorem g3_rel : ∀ {zs : List V} {ws : List Value}, zs.length = 3 → Vals zs ws → Vals (gV3 zs) (gU3 ws)
  | [_, _, _], [_, _, _], _, .cons a (.cons b (.cons c .nil)) => .cons c (.cons b (.cons a .nil))
end Cf

namespace Cf
open PySem PySem.Spec PyProof.Rows L2 Evl
theorem shl1 {b : Nat} {σ : L2.St} {H : Hp} (h : b ≤ 128) {ta tb : TE} (ha : Ev ta σ H (.int 1)) (hb : Ev tb σ H (.int (b : Int))) : Ev (tOp (rI CPow fun i j => .int (i * 2 ^ j.toNat)) ta tb) σ H (.int (2 ^ b)) := by
  refine ev_is (ev_op ha hb (rv_I ⟨by omega, by omega, by decide⟩)) ?_
  rw [Int.toNat_natCast, Int.one_mul]

theorem small_log {i : Int} {n : Nat} (hn : 0 < n) (h : i.natAbs < 2 ^ n) (h2 : n ≤ 90000) : CPowW i 3 := ⟨by decide, by decide, by
  have := PySem.Flt.log2_lt_of hn h
  omega⟩

def preNil (xs : List V) : List V → Hp → List V → Prop := fun vs H ys => vs = [] ∧ ys = xs
theorem PL.sp {pre : List V → Hp → List V → Prop} {vs xs : List V} {H : Hp} (h : ∀ H1, Ex H H1 → pre vs H1 xs) : SpL (PL pre) vs H xs := fun H1 e Q q E => ⟨xs, h H1 e, q⟩
def preKv (g : Kd → V) : List V → Hp → V → Prop := fun vs H v => ∃ k : Kd, vs = [k.v] ∧ v = g k
theorem spKv {g : Kd → V} {H : Hp} {k : Kd} : SpV (PV (preKv g)) [k.v] H (g k) := PV.sp fun H1 e => ⟨k, rfl, rfl⟩
def Kd.ix : Kd → Nat
  | .ch => 0 | .sc => 1 | .uc => 2 | .sh => 3 | .us => 4 | .it => 5 | .ui => 6 | .lo => 7 | .ul => 8 | .wi => 9 | .uw => 10
theorem kd_at : ∀ {m : Nat} {z : V}, vKINDS[m]? = some z → ∃ k : Kd, k.ix = m ∧ z = k.v
  | 0, _, h => ⟨.ch, rfl, (Option.some.inj h).symm⟩
  | 1, _, h => ⟨.sc, rfl, (Option.some.inj h).symm⟩
  | 2, _, h => ⟨.uc, rfl, (Option.some.inj h).symm⟩
  | 3, _, h => ⟨.sh, rfl, (Option.some.inj h).symm⟩
  | 4, _, h => ⟨.us, rfl, (Option.some.inj h).symm⟩
  | 5, _, h => ⟨.it, rfl, (Option.some.inj h).symm⟩
  | 6, _, h => ⟨.ui, rfl, (Option.some.inj h).symm⟩
  | 7, _, h => ⟨.lo, rfl, (Option.some.inj h).symm⟩
  | 8, _, h => ⟨.ul, rfl, (Option.some.inj h).symm⟩
  | 9, _, h => ⟨.wi, rfl, (Option.some.inj h).symm⟩
  | 10, _, h => ⟨.uw, rfl, (Option.some.inj h).symm⟩
  | _ + 11, _, h => nomatch h
theorem kd_eq (k l : Kd) : eqV k.v l.v = decide (k = l) := by cases k <;> cases l <;> rfl
/-- xs.index(k) in the list of all types -/
theorem ev_index {K : PySem.W.Frag} {σ : L2.St} {H : Hp} {ta tb : TE} {k : Kd} (ha : EvL ta σ H vKINDS) (hb : ∀ H1, Ex H H1 → Ev tb σ H1 k.v) : Ev (tBM K "list" (rIndex K) ta (tCons tb tNil)) σ H (.int (k.ix : Nat)) := fun H1 e Q q =>
  ha H1 e _ fun p H2 _ e2 h2 => ⟨.inl ⟨rfl, _, sq_of h2⟩, hb H2 (e.trans e2) H2 (Ex.refl H2) _ fun H3 e3 =>
    ⟨p, vKINDS, k.v, k.ix, k.v, rfl, rfl, sq_of (e3 _ _ h2), rfl, rfl, by cases k <;> rfl, by rw [kd_eq]; exact decide_eq_true rfl, fun m z hm hz => by
      obtain ⟨k2, e4, rfl⟩ := kd_at hz
      rw [kd_eq]
      refine decide_eq_false fun e5 => ?_
      subst e5
      omega, q H3 (e2.trans e3)⟩⟩

theorem draw_at {σ : L2.St} {H : Hp} {ta : TA} {r : Addr} {l : Int} {n : Nat} {E : XK} {Q : VK} (h : EvA ta σ H [.ref r, .int l]) (l0 : 0 < l) (l1 : l.natAbs.log2 < 9000) (hn : n < 2 ^ 60) (g : Rng H r n)
    (k : ∀ H' v, Bu r H H' → Rng H' r (n + 1) → 0 ≤ v → v < l → Q (.int v) H') : tCall spDraw [] E ta σ H Q :=
  h H (Ex.refl H) _ fun H1 e1 => ⟨r, l, n, rfl, l0, l1, hn, g.ex e1, fun H' v b g2 v0 v1 => k H' v ((Bu.of e1).trans b) g2 v0 v1⟩
theorem log_small {l : Int} (h : l.natAbs < 2 ^ 200) : l.natAbs.log2 < 9000 := by
  have := PySem.Flt.log2_lt_of (by decide : 0 < 200) h
  omega
/-- widths so far: they ascend from low, the last is at most here -/
def Asc : Int → List Int → Int → Prop
  | low, [], here => low ≤ here
  | low, x :: xs, here => low ≤ x ∧ Asc x xs here
theorem Asc.le : ∀ {low : Int} {xs : List Int} {here : Int}, Asc low xs here → low ≤ here
  | _, [], _, h => h
  | _, x :: xs, _, h => Int.le_trans h.1 (Asc.le h.2)
theorem Asc.add : ∀ {low : Int} {xs : List Int} {here h2 : Int}, Asc low xs here → here ≤ h2 → Asc low (xs ++ [h2]) h2
  | _, [], _, _, h, h' => ⟨Int.le_trans h h', Int.le_refl _⟩
  | _, x :: xs, _, _, h, h' => ⟨h.1, Asc.add h.2 h'⟩
def spScheme (K : PySem.W.Frag) : Sp := fun vs H Q _ => ∃ r low top n, vs = [.ref r, .int low, .int top] ∧ 2 ≤ low ∧ low ≤ top ∧ top ≤ 128 ∧ n < 2 ^ 50 ∧ Rng H r n ∧
  ∀ p H' m, Bu r H H' → Rng H' r (n + 20) → AtM K H' p m → m.Ok → low ≤ m.w0 → (m.w4 : Int) ≤ top → Q (.ref p) H'

theorem Md.small (m : Md) (h : m.Ok) (k : Kd) : (m.low k).natAbs < 2 ^ 140 ∧ (m.high k).natAbs < 2 ^ 140 := by
  obtain ⟨b0, b1⟩ := h.b k
  have key : ∀ n : Nat, n ≤ 128 → (2 : Int) ^ n ≤ 2 ^ 128 ∧ 1 ≤ (2 : Int) ^ n := fun n hn => by
    have e1 : ((2 : Int) ^ n) = ((2 ^ n : Nat) : Int) := by
      rw [Int.natCast_pow]
      rfl
    have e2 : (2 : Nat) ^ n ≤ 2 ^ 128 := Nat.pow_le_pow_right (by decide) hn
    have e3 : 1 ≤ (2 : Nat) ^ n := Nat.one_le_two_pow
    rw [e1]
    omega
  obtain ⟨k1, k2⟩ := key (m.b k) b1
  obtain ⟨k3, k4⟩ := key (m.b k - 1) (by omega)
  unfold Md.low Md.high
  split <;> omega

theorem pick2 {K : PySem.W.Frag} {σ : L2.St} {H : Hp} {r : Addr} {a b : Int} {n j : Nat} {E : XK} {Q : VK} (g : Rng H r n) (hn : n < 2 ^ 60) (hj : σ[j]? = some (some (.ref r))) (k : ∀ H' x, Bu r H H' → Rng H' r (n + 1) → (x = a ∨ x = b) → Q (.int x) H') :
    tOp (rIxL K) (tLst (tCons (tC (.int a)) (tCons (tC (.int b)) tNil))) (tCall spDraw [] E (tCons (tVar j) (tCons (tC (.int 2)) tNil))) σ H Q := by
  refine ⟨by show 2 ≤ sizeLine; decide, fun t nt => ?_⟩
  have e1 : Ex H (upd H t (.lst [.int a, .int b])) := Ex.new nt
  have htr : t ≠ r := by
    obtain ⟨d, s2, c, q, _⟩ := g
    exact fun z => by
      rw [z, q] at nt
      cases nt
  refine draw_at (l := 2) (n := n) (ea_cons (ev_var hj) (ea_cons ev_c ea_nil)) (by decide) (log_small (by decide)) hn (g.ex e1) fun H2 v b2 g2 v0 v1 => ?_
  have h2 : H2 t = some (.lst [.int a, .int b]) := b2 _ _ htr upd_same
  have hv : v = 0 ∨ v = 1 := by omega
  rcases hv with rfl | rfl
  · exact ⟨t, _, 0, _, rfl, rfl, sq_of h2, atI_nat (j := 0) rfl, k H2 a ((Bu.of e1).trans b2) g2 (.inl rfl)⟩
  · exact ⟨t, _, 1, _, rfl, rfl, sq_of h2, atI_nat (j := 1) rfl, k H2 b ((Bu.of e1).trans b2) g2 (.inr rfl)⟩
def spLaw (K : PySem.W.Frag) : Sp := fun vs H Q _ => ∃ (a : Addr) (ns : List Int), vs = [.ref a] ∧ SqL K H a (ns.map V.int) ∧ ns.length ≤ 63 ∧ ∀ H', Q (.bl true) H'
theorem rv_eqDT {K : PySem.W.Frag} {H : Hp} {p q : Addr} {d e : PyData} (hd : ∀ H1, Ex H H1 → Dp K H1 (.ref p) d) (he : ∀ H1, Ex H H1 → Dp K H1 (.ref q) e) (sd : SeqAt.shaped d = true) (se : SeqAt.shaped e = true) {b : Bool} (hb : PyData.eqv d e = b) :
    RV (rEqD K) (.ref p) (.ref q) H (.bl b) := fun H1 e1 Q q => ⟨d, e, hd H1 e1, he H1 e1, sd, se, by rw [hb]; exact q H1 (Ex.refl H1)⟩

end Cf

namespace Cf
open PySem PySem.Spec PyProof.Rows L2 Evl
/-! ## promotion, common types -/
def uKd : Nat → Kd
  | 0 => .uc | 1 => .us | 2 => .ui | 3 => .ul | _ => .uw
def sKd : Nat → Kd
  | 2 => .it | 3 => .lo | _ => .wi
def Md.prom (m : Md) (k : Kd) : Kd := if 2 ≤ k.rk then k else if m.un k = true ∧ m.b .it ≤ m.b k then .ui else .it
def Md.mix (m : Md) (u s : Kd) : Kd := if s.rk ≤ u.rk then u else if m.b u < m.b s then s else uKd s.rk
def Md.com2 (m : Md) (a b : Kd) : Kd := if m.un a = m.un b then (if b.rk ≤ a.rk then a else b) else if m.un a = true then m.mix a b else m.mix b a
def Md.com (m : Md) (k l : Kd) : Kd := m.com2 (m.prom k) (m.prom l)
/-- the six promoted types -/
def Kd.big (k : Kd) : Prop := k = .it ∨ k = .ui ∨ k = .lo ∨ k = .ul ∨ k = .wi ∨ k = .uw
theorem Md.prom_big (m : Md) (k : Kd) : (m.prom k).big := by
  unfold Md.prom
  by_cases h : 2 ≤ k.rk
  · rw [if_pos h]
    revert h
    unfold Kd.big
    cases k <;> decide
  · rw [if_neg h]
    by_cases h2 : m.un k = true ∧ m.b .it ≤ m.b k
    · rw [if_pos h2]
      exact .inr (.inl rfl)
    · rw [if_neg h2]
      exact .inl rfl
/-- a pure def's promise over a model at p and types -/
theorem ev_mk {K : PySem.W.Frag} {σ : L2.St} {H : Hp} {p : Addr} {m : Md} {k : Kd} {g : Md → Kd → V} {i j : Nat} (a : AtM K H p m) (o : m.Ok) (hi : σ[i]? = some (some (.ref p))) (hj : σ[j]? = some (some k.v)) :
    Ev (tCall (PV (preMK K g)) [] E0 (tCons (tVar i) (tCons (tVar j) tNil))) σ H (g m k) := ev_call (ea_cons (ev_var hi) (ea_cons (ev_var hj) ea_nil)) (spMK a o)
/-- RANKS[k] -/
def tRk (K : PySem.W.Frag) (w : World) (aR : Addr) (tk : TE) : TE := tOp (rIxD K w) (tC (.ref aR)) tk
theorem ev_rk {K : PySem.W.Frag} {w : World} {aR : Addr} (tR : ∀ k : Kd, KDct K w aR k.s (.int k.rk)) {σ : L2.St} {H : Hp} {tk : TE} {k : Kd} (h : Ev tk σ H k.v) : Ev (tOp (rIxD K w) (tC (.ref aR)) tk) σ H (.int (k.rk : Nat)) :=
  ev_op ev_c h fun H1 _ Q1 q1 => ⟨aR, k.s, _, rfl, rfl, tR k, q1 H1 (Ex.refl H1)⟩
theorem pick3 {K : PySem.W.Frag} {σ : L2.St} {H : Hp} {r : Addr} {a b c : Int} {n j : Nat} {E : XK} {Q : VK} (g : Rng H r n) (hn : n < 2 ^ 60) (hj : σ[j]? = some (some (.ref r))) (k : ∀ H' x, Bu r H H' → Rng H' r (n + 1) → (x = a ∨ x = b ∨ x = c) → Q (.int x) H') :
    tOp (rIxL K) (tLst (tCons (tC (.int a)) (tCons (tC (.int b)) (tCons (tC (.int c)) tNil)))) (tCall spDraw [] E (tCons (tVar j) (tCons (tC (.int 3)) tNil))) σ H Q := by
  refine ⟨by show 3 ≤ sizeLine; decide, fun t nt => ?_⟩
  have e1 : Ex H (upd H t (.lst [.int a, .int b, .int c])) := Ex.new nt
  have htr : t ≠ r := by
    obtain ⟨d, s2, c, q, _⟩ := g
    exact fun z => by
      rw [z, q] at nt
      cases nt
  refine draw_at (l := 3) (n := n) (ea_cons (ev_var hj) (ea_cons ev_c ea_nil)) (by decide) (log_small (by decide)) hn (g.ex e1) fun H2 v b2 g2 v0 v1 => ?_
  have h2 : H2 t = some (.lst [.int a, .int b, .int c]) := b2 _ _ htr upd_same
  have hv : v = 0 ∨ v = 1 ∨ v = 2 := by omega
  rcases hv with rfl | rfl | rfl
  · exact ⟨t, _, 0, _, rfl, rfl, sq_of h2, atI_nat (j := 0) rfl, k H2 a ((Bu.of e1).trans b2) g2 (.inl rfl)⟩
  · exact ⟨t, _, 1, _, rfl, rfl, sq_of h2, atI_nat (j := 1) rfl, k H2 b ((Bu.of e1).trans b2) g2 (.inr (.inl rfl))⟩
  · exact ⟨t, _, 2, _, rfl, rfl, sq_of h2, atI_nat (j := 2) rfl, k H2 c ((Bu.of e1).trans b2) g2 (.inr (.inr rfl))⟩
/-! ### the law's own way -/
def lawOf (r : Nat) (s : Bool) : Kd := if s = true then sKd r else uKd r
def Md.lawCom (m : Md) (a b : Kd) : Kd :=
  if (!m.un a) = (!m.un b) then lawOf (max a.rk b.rk) (!m.un a)
  else lawOf (max a.rk b.rk) (decide ((if (!(!m.un a)) = true then a else b).rk < max a.rk b.rk) && decide (m.w (if (!(!m.un a)) = true then a else b).rk < m.w (max a.rk b.rk)))
theorem Md.lawCom_eq (m : Md) {a b : Kd} (ha : a.big) (hb : b.big) : m.lawCom a b = m.com2 a b := by
  rcases ha with rfl | rfl | rfl | rfl | rfl | rfl <;> rcases hb with rfl | rfl | rfl | rfl | rfl | rfl <;>
    simp [Md.lawCom, Md.com2, Md.mix, Md.un, Kd.rk, lawOf, sKd, uKd, Md.b, Md.w]
theorem big_rk {k : Kd} (h : k.big) : 2 ≤ k.rk ∧ k.rk ≤ 4 := by
  rcases h with rfl | rfl | rfl | rfl | rfl | rfl <;> decide
def preOf : List V → Hp → V → Prop := fun vs H v => ∃ (r : Nat) (s : Bool), vs = [.int r, .bl s] ∧ 2 ≤ r ∧ r ≤ 4 ∧ v = (lawOf r s).v
theorem spOf {H : Hp} {r : Nat} {s : Bool} (h0 : 2 ≤ r) (h1 : r ≤ 4) : SpV (PV preOf) [.int r, .bl s] H (lawOf r s).v := PV.sp fun H1 e => ⟨r, s, rfl, h0, h1, rfl⟩
def preM1 (K : PySem.W.Frag) (v : V) : List V → Hp → V → Prop := fun vs H z => ∃ p m, vs = [.ref p] ∧ AtM K H p m ∧ m.Ok ∧ z = v
theorem spM1 {K : PySem.W.Frag} {H : Hp} {p : Addr} {m : Md} {v : V} (a : AtM K H p m) (o : m.Ok) : SpV (PV (preM1 K v)) [.ref p] H v := PV.sp fun H1 e => ⟨p, m, rfl, a.ex e, o, rfl⟩
/-- != of two new lists that hold the same -/
theorem ev_neL {K : PySem.W.Frag} {σ : L2.St} {H : Hp} {ta tb : TE} {xs ys : List V} {ds : List PyData} (ha : EvL ta σ H xs) (hb : EvL tb σ H ys) (hx : ∀ H1, Ex H H1 → DpAll K H1 xs ds) (hy : ∀ H1, Ex H H1 → DpAll K H1 ys ds)
    (hs : SeqAt.shaped (.list ds) = true) (he : PyData.eqv (.list ds) (.list ds) = true) : Ev (tOp (rNeD K) ta tb) σ H (.bl false) :=
  ev_opLL ha hb fun p q H1 hp hq e => fun H2 e2 Q k => ⟨.list ds, .list ds, .lst (sq_of (e2 _ _ hp)) (hx H2 (e.trans e2)), .lst (sq_of (e2 _ _ hq)) (hy H2 (e.trans e2)), hs, hs, by rw [he]; exact k H2 (Ex.refl H2)⟩
theorem ev_eqL {K : PySem.W.Frag} {σ : L2.St} {H : Hp} {ta tb : TE} {a : Addr} {ys : List V} {ds : List PyData} (ha : Ev ta σ H (.ref a)) (hb : EvL tb σ H ys) (hx : ∀ H1, Ex H H1 → Dp K H1 (.ref a) (.list ds)) (hy : ∀ H1, Ex H H1 → DpAll K H1 ys ds)
    (hs : SeqAt.shaped (.list ds) = true) (he : PyData.eqv (.list ds) (.list ds) = true) : Ev (tOp (rEqD K) ta tb) σ H (.bl true) :=
  ev_opL ha hb fun q H1 hq e => fun H2 e2 Q k => ⟨.list ds, .list ds, hx H2 (e.trans e2), .lst (sq_of (e2 _ _ hq)) (hy H2 (e.trans e2)), hs, hs, by rw [he]; exact k H2 (Ex.refl H2)⟩
theorem dp_kd {K : PySem.W.Frag} {H : Hp} : ∀ ks : List Kd, DpAll K H (ks.map Kd.v) (ks.map fun k => .str k.s)
  | [] => .nil
  | k :: ks => .cons (.str _) (dp_kd ks)
theorem kd_eqs : ∀ k : Kd, PyData.eqv (.str k.s) (.str k.s) = true := fun k => by cases k <;> rfl
theorem eqv_kd : ∀ ks : List Kd, PyData.eqvAll (ks.map fun k => .str k.s) (ks.map fun k => .str k.s) = true
  | [] => rfl
  | k :: ks => by
    show (PyData.eqv (.str k.s) (.str k.s) && PyData.eqvAll _ _) = true
    rw [kd_eqs k, eqv_kd ks]
    rfl
theorem Md.com_comm (m : Md) (k l : Kd) : m.com k l = m.com l k := by
  unfold Md.com
  have ha := m.prom_big k
  have hb := m.prom_big l
  generalize m.prom k = a at ha ⊢
  generalize m.prom l = b at hb ⊢
  rcases ha with rfl | rfl | rfl | rfl | rfl | rfl <;> rcases hb with rfl | rfl | rfl | rfl | rfl | rfl <;>
    simp [Md.com2, Md.mix, Md.un, Kd.rk]
/-- a list comprehension's or a loop's list of all types, made anew -/
theorem el_labels {σ : L2.St} {H : Hp} : EvL (tCall (PL (preNil vKINDS)) [] E0 tNil) σ H vKINDS := el_call ea_nil (PL.sp fun H7 e7 => ⟨rfl, rfl⟩)
def kdD (ks : List Kd) : List PyData := ks.map fun k => .str k.s
theorem kdl_lay : ∀ ks : List Kd, PyData.canLayAll0 (kdD ks) = true
  | [] => by simp [kdD, PyData.canLayAll0]
  | k :: ks => by
    have ih := kdl_lay ks
    have hk : PyData.strOk k.s = true := by cases k <;> decide +kernel
    unfold kdD at ih ⊢
    simp [PyData.canLayAll0, PyData.canLay0, ih, hk]
theorem kdl_depth : ∀ ks : List Kd, PyData.depthAll (kdD ks) ≤ 2
  | [] => by simp [kdD, PyData.depthAll]
  | k :: ks => by
    have ih := kdl_depth ks
    unfold kdD at ih ⊢
    simp only [List.map_cons, PyData.depthAll, PyData.depth]
    omega
theorem kdl_shaped (ks : List Kd) : SeqAt.shaped (.list (kdD ks)) = true := by
  have h1 := kdl_depth ks
  show (PyData.canLay0 (.list (kdD ks)) && decide (PyData.depth (.list (kdD ks)) ≤ 64)) = true
  rw [Bool.and_eq_true]
  refine ⟨by simp only [PyData.canLay0]; exact kdl_lay ks, decide_eq_true ?_⟩
  simp only [PyData.depth]
  omega
theorem kdl_eqv (ks : List Kd) : PyData.eqv (.list (kdD ks)) (.list (kdD ks)) = true := by
  simp only [PyData.eqv]
  exact eqv_kd ks
theorem ev_neK {K : PySem.W.Frag} {σ : L2.St} {H : Hp} {ta tb : TE} {xs ys : List V} (ks : List Kd) (ha : EvL ta σ H xs) (hb : EvL tb σ H ys) (hx : xs = ks.map Kd.v := by rfl) (hy : ys = ks.map Kd.v := by rfl) : Ev (tOp (rNeD K) ta tb) σ H (.bl false) := by
  subst hx hy
  exact ev_neL (ds := kdD ks) ha hb (fun _ _ => dp_kd ks) (fun _ _ => dp_kd ks) (kdl_shaped ks) (kdl_eqv ks)
theorem ev_eqK {K : PySem.W.Frag} {σ : L2.St} {H : Hp} {ta tb : TE} {a : Addr} {xs ys : List V} (ks : List Kd) (ha : Ev ta σ H (.ref a)) (hb : EvL tb σ H ys) (hl : SqL K H a xs) (hx : xs = ks.map Kd.v := by rfl) (hy : ys = ks.map Kd.v := by rfl) : Ev (tOp (rEqD K) ta tb) σ H (.bl true) := by
  subst hx hy
  exact ev_eqL (ds := kdD ks) ha hb (fun _ e => .lst (ex_l e hl) (dp_kd ks)) (fun _ _ => dp_kd ks) (kdl_shaped ks) (kdl_eqv ks)
end Cf

namespace Cf
open PySem PySem.Spec PyProof.Rows L2 Evl
/-! ## conversion -/
def Md.conv (m : Md) (k : Kd) (i : Int) : Int := (i - m.low k) % (m.high k - m.low k + 1) + m.low k
theorem p2 (n : Nat) : (0 : Int) < 2 ^ n := Int.pow_pos (by decide)
theorem p2s {n : Nat} (h : 1 ≤ n) : (2 : Int) ^ n = 2 * 2 ^ (n - 1) := by
  obtain ⟨k, rfl⟩ : ∃ k, n = k + 1 := ⟨n - 1, by omega⟩
  rw [Nat.add_sub_cancel, Int.pow_succ, Int.mul_comm]
theorem Md.span (m : Md) (h : m.Ok) (k : Kd) : m.high k - m.low k + 1 = 2 ^ m.b k := by
  obtain ⟨b0, _⟩ := h.b k
  have e := p2s (n := m.b k) (by omega)
  unfold Md.low Md.high
  split <;> omega
theorem Md.conv_in (m : Md) (h : m.Ok) (k : Kd) (i : Int) : m.low k ≤ m.conv k i ∧ m.conv k i ≤ m.high k := by
  have e := m.span h k
  have p := p2 (m.b k)
  unfold Md.conv
  have h0 := Int.emod_nonneg (i - m.low k) (show m.high k - m.low k + 1 ≠ 0 by omega)
  have h1 := Int.emod_lt_of_pos (i - m.low k) (show 0 < m.high k - m.low k + 1 by omega)
  omega
theorem Md.conv_mod (m : Md) (h : m.Ok) (k : Kd) (i : Int) : (m.conv k i - i) % 2 ^ m.b k = 0 := by
  have e := m.span h k
  unfold Md.conv
  rw [e]
  have h1 := Int.emod_add_mul_ediv (i - m.low k) (2 ^ m.b k)
  have h2 : (i - m.low k) % 2 ^ m.b k + m.low k - i = 2 ^ m.b k * (-((i - m.low k) / 2 ^ m.b k)) := by
    rw [Int.mul_neg]
    omega
  rw [h2]
  exact Int.mul_emod_right _ _
/-- the law's own way to say that an integer is held -/
theorem Md.held (m : Md) (h : m.Ok) (k : Kd) (i : Int) : (if (!m.un k) = true then decide (0 - 2 ^ m.b k ≤ 2 * i ∧ 2 * i < 2 ^ m.b k) else decide (0 ≤ i ∧ i < 2 ^ m.b k)) = decide (m.low k ≤ i ∧ i ≤ m.high k) := by
  obtain ⟨b0, _⟩ := h.b k
  have e := p2s (n := m.b k) (by omega)
  have key1 : (0 - 2 ^ m.b k ≤ 2 * i ∧ 2 * i < 2 ^ m.b k) ↔ (-(2 ^ (m.b k - 1)) ≤ i ∧ i ≤ 2 ^ (m.b k - 1) - 1) := by
    rw [e]
    generalize (2 : Int) ^ (m.b k - 1) = x
    omega
  have key2 : (0 ≤ i ∧ i < (2 : Int) ^ m.b k) ↔ (0 ≤ i ∧ i ≤ 2 ^ m.b k - 1) := by
    generalize (2 : Int) ^ m.b k = x
    omega
  unfold Md.low Md.high
  cases m.un k
  · exact decide_eq_decide.mpr key1
  · exact decide_eq_decide.mpr key2
theorem ev_chLeLt {σ : L2.St} {H : Hp} {ta tb tc : TE} {a b c : Int} (ha : Ev ta σ H (.int a)) (hb : Ev tb σ H (.int b)) (hc : Ev tc σ H (.int c)) :
    Ev (tChain (rI0 fun i j => .bl (decide (i ≤ j))) (rI0 fun i j => .bl (decide (i < j))) ta tb tc) σ H (.bl (decide (a ≤ b ∧ b < c))) := fun H1 e Q q =>
  ha H1 e _ fun H2 e2 => hb H2 (e.trans e2) _ fun H3 e3 => ⟨a, b, rfl, rfl, _, rfl, by
    have e4 := (e.trans e2).trans e3
    by_cases h1 : a ≤ b
    · rw [decide_eq_true h1]
      refine iteT (hc H3 e4 _ fun H4 e5 => ⟨b, c, rfl, rfl, ?_⟩)
      have e6 : decide (b < c) = decide (a ≤ b ∧ b < c) := by
        by_cases h2 : b < c
        · rw [decide_eq_true h2, decide_eq_true ⟨h1, h2⟩]
        · rw [decide_eq_false h2, decide_eq_false fun z => h2 z.2]
      show Q (.bl (decide (b < c))) H4
      rw [e6]
      exact q H4 ((e2.trans e3).trans e5)
    · rw [decide_eq_false h1]
      refine iteF ?_
      have e6 : decide (a ≤ b ∧ b < c) = false := decide_eq_false fun z => h1 z.1
      rw [e6] at q
      exact q H3 (e2.trans e3)⟩
theorem ev_isi {K : PySem.W.Frag} {σ : L2.St} {H : Hp} {ta : TE} {i : Int} {n : String} {b : Bool} (ha : Ev ta σ H (.int i)) (hb : PySem.W.kitOne K (.type "int") (.type n) = some b) :
    Ev (tCB (rIsi K) (tCons ta (tCons (tC (.ty n)) tNil))) σ H (.bl b) := ev_cb (ea_cons ha (ea_cons ev_c ea_nil)) fun H1 _ Q1 q1 => ⟨.int i, .ty n, .type "int", .type n, b, rfl, .ty n, .base (.int i), hb, q1 H1 (Ex.refl H1)⟩
theorem drop_raw {σ : L2.St} {H : Hp} {te : TE} {tz : TS} {D : Ends} (h : te σ H fun _ H1 => tz D σ H1) : tSeq (tDrop te) tz D σ H := h
theorem app_raw {K : PySem.W.Frag} {σ : L2.St} {H : Hp} {i : Nat} {l : Addr} {xs : List V} {tr : TA} {Q : VK} (hi : σ[i]? = some (some (.ref l))) (hl : H l = some (.lst xs)) (h : tr σ H fun ys H2 => rAppend (.ref l) ys H2 Q) : tBM K "list" rAppend (tVar i) tr σ H Q :=
  ⟨.ref l, hi, .inl ⟨rfl, xs, sq_of hl⟩, h⟩
def spRightN (K : PySem.W.Frag) (c : Nat) : Sp := fun vs H Q _ => ∃ r p k m n, vs = [.ref r, .ref p, Kd.v k] ∧ AtM K H p m ∧ m.Ok ∧ n < 2 ^ 50 ∧ Rng H r n ∧ ∀ H', Bu r H H' → Rng H' r (n + c) → Q (.bl true) H'
example {K : PySem.W.Frag} : PySem.W.kitOne K (.type "int") (.type "bool") = some false := kit_ty (by decide +kernel)
end Cf

namespace Cf
open PySem PySem.Spec PyProof.Rows L2 Evl
/-! ## conversions behind one another; what common types hold -/
theorem Md.conv_dvd (m : Md) (h : m.Ok) (k : Kd) (i : Int) : (2 : Int) ^ m.b k ∣ m.conv k i - i := Int.dvd_of_emod_eq_zero (m.conv_mod h k i)
theorem Md.conv_eq (m : Md) (h : m.Ok) (k : Kd) {i y : Int} (h0 : m.low k ≤ y) (h1 : y ≤ m.high k) (hd : (2 : Int) ^ m.b k ∣ y - i) : m.conv k i = y := by
  obtain ⟨c0, c1⟩ := m.conv_in h k i
  have e := m.span h k
  have p := p2 (m.b k)
  obtain ⟨q1, e1⟩ := m.conv_dvd h k i
  obtain ⟨q2, e2⟩ := hd
  have e3 : m.conv k i - y = 2 ^ m.b k * (q1 - q2) := by
    rw [Int.mul_sub]
    omega
  have hq : q1 - q2 = 0 := by
    by_cases z : q1 - q2 ≥ 1
    · have := Int.mul_le_mul_of_nonneg_left z (Int.le_of_lt p)
      omega
    · by_cases z2 : q1 - q2 ≤ -1
      · have := Int.mul_le_mul_of_nonneg_left z2 (Int.le_of_lt p)
        omega
      · omega
  rw [hq, Int.mul_zero] at e3
  omega
theorem Md.conv_conv (m : Md) (h : m.Ok) (k : Kd) (i : Int) : m.conv k (m.conv k i) = m.conv k i :=
  m.conv_eq h k (m.conv_in h k i).1 (m.conv_in h k i).2 ⟨0, by omega⟩
theorem Md.conv_held (m : Md) (h : m.Ok) (k : Kd) (i : Int) : (m.low k ≤ i ∧ i ≤ m.high k) ↔ m.conv k i = i := by
  constructor
  · intro z
    exact m.conv_eq h k z.1 z.2 ⟨0, by omega⟩
  · intro z
    have := m.conv_in h k i
    rw [z] at this
    exact this
theorem Md.conv_less (m : Md) (h : m.Ok) {k l : Kd} (hb : m.b l ≤ m.b k) (i : Int) : m.conv l (m.conv k i) = m.conv l i := by
  refine m.conv_eq h l (m.conv_in h l i).1 (m.conv_in h l i).2 ?_
  have d1 := m.conv_dvd h l i
  have d2 : (2 : Int) ^ m.b l ∣ m.conv k i - i := Int.dvd_trans ⟨2 ^ (m.b k - m.b l), by rw [← Int.pow_add]; congr 1; omega⟩ (m.conv_dvd h k i)
  have d3 := Int.dvd_sub d1 d2
  have e : m.conv l i - i - (m.conv k i - i) = m.conv l i - m.conv k i := by omega
  rw [e] at d3
  exact d3
theorem Md.conv_sum (m : Md) (h : m.Ok) (k : Kd) (i j : Int) : m.conv k (m.conv k i + m.conv k j) = m.conv k (i + j) := by
  refine m.conv_eq h k (m.conv_in h k _).1 (m.conv_in h k _).2 ?_
  have d1 := m.conv_dvd h k (i + j)
  have d2 := Int.dvd_add (m.conv_dvd h k i) (m.conv_dvd h k j)
  have d3 := Int.dvd_sub d1 d2
  have e : m.conv k (i + j) - (i + j) - (m.conv k i - i + (m.conv k j - j)) = m.conv k (i + j) - (m.conv k i + m.conv k j) := by omega
  rw [e] at d3
  exact d3
theorem p2le {a b : Nat} (h : a ≤ b) : (2 : Int) ^ a ≤ 2 ^ b := by
  have e : ∀ n : Nat, (2 : Int) ^ n = ((2 ^ n : Nat) : Int) := fun n => by
    rw [Int.natCast_pow]
    rfl
  rw [e, e]
  exact_mod_cast Nat.pow_le_pow_right (by decide) h
theorem Md.Ok.wle {m : Md} (h : m.Ok) {i j : Nat} (hij : i ≤ j) : m.w i ≤ m.w j := by
  obtain ⟨h0, h1, h2, h3, h4, h5⟩ := h
  match i, j, hij with
  | 0, 0, _ => exact Nat.le_refl _
  | 0, 1, _ => simp only [Md.w]; omega
  | 0, 2, _ => simp only [Md.w]; omega
  | 0, 3, _ => simp only [Md.w]; omega
  | 0, n + 4, _ => simp only [Md.w]; omega
  | 1, 1, _ => exact Nat.le_refl _
  | 1, 2, _ => simp only [Md.w]; omega
  | 1, 3, _ => simp only [Md.w]; omega
  | 1, n + 4, _ => simp only [Md.w]; omega
  | 2, 2, _ => exact Nat.le_refl _
  | 2, 3, _ => simp only [Md.w]; omega
  | 2, n + 4, _ => simp only [Md.w]; omega
  | 3, 3, _ => exact Nat.le_refl _
  | 3, n + 4, _ => simp only [Md.w]; omega
  | k + 4, n + 4, _ => exact Nat.le_refl _
/-- b holds what a holds -/
def Md.In (m : Md) (a b : Kd) : Prop := m.high a ≤ m.high b ∧ m.low b ≤ m.low a
/-- b holds what a holds from 0 on -/
theorem Md.in_same (m : Md) {a b : Kd} (hs : m.un a = m.un b) (hb : m.b a ≤ m.b b) : m.In a b := by
  unfold Md.In Md.high Md.low
  rw [hs]
  have h1 := p2le hb
  have h2 := p2le (a := m.b a - 1) (b := m.b b - 1) (by omega)
  split <;> omega
theorem Md.in_us (m : Md) {u s : Kd} (hu : m.un u = true) (hs : m.un s = false) (hb : m.b u < m.b s) : m.In u s := by
  unfold Md.In Md.high Md.low
  rw [hu, hs]
  have h1 := p2le (a := m.b u) (b := m.b s - 1) (by omega)
  have h2 := p2 (m.b s - 1)
  simp
  omega
theorem Md.hi_su (m : Md) (h : m.Ok) {u s : Kd} (hu : m.un u = true) (hs : m.un s = false) (hb : m.b s ≤ m.b u) : m.high s ≤ m.high u := by
  unfold Md.high
  rw [hu, hs]
  have h1 := p2le (a := m.b s - 1) (b := m.b u) (by omega)
  simp
  omega
theorem Md.prom_in (m : Md) (h : m.Ok) (k : Kd) : m.In k (m.prom k) := by
  unfold Md.prom
  by_cases h2 : 2 ≤ k.rk
  · rw [if_pos h2]
    exact ⟨Int.le_refl _, Int.le_refl _⟩
  · rw [if_neg h2]
    have hw : m.b k ≤ m.b .it := h.wle (i := k.rk) (j := 2) (by omega)
    have hw2 : m.b k ≤ m.b .ui := hw
    by_cases h3 : m.un k = true ∧ m.b .it ≤ m.b k
    · rw [if_pos h3]
      exact m.in_same h3.1 hw2
    · rw [if_neg h3]
      cases hu : m.un k
      · exact m.in_same hu hw
      · exact m.in_us hu rfl (Nat.lt_of_not_le fun z => h3 ⟨hu, z⟩)
theorem uKd_un (m : Md) (r : Nat) : m.un (uKd r) = true := by
  match r with
  | 0 => rfl
  | 1 => rfl
  | 2 => rfl
  | 3 => rfl
  | _ + 4 => rfl
theorem uKd_b (m : Md) {r : Nat} (h : r ≤ 4) : m.b (uKd r) = m.w r := by
  match r, h with
  | 0, _ => rfl
  | 1, _ => rfl
  | 2, _ => rfl
  | 3, _ => rfl
  | 4, _ => rfl
theorem Md.mix_ok (m : Md) (h : m.Ok) {u s : Kd} (hu : m.un u = true) (hs : m.un s = false) :
    m.high u ≤ m.high (m.mix u s) ∧ m.high s ≤ m.high (m.mix u s) ∧ (m.un (m.mix u s) = false → m.low (m.mix u s) ≤ m.low u ∧ m.low (m.mix u s) ≤ m.low s) := by
  unfold Md.mix
  by_cases h1 : s.rk ≤ u.rk
  · rw [if_pos h1]
    exact ⟨Int.le_refl _, m.hi_su h hu hs (h.wle h1), fun z => by rw [hu] at z; cases z⟩
  · rw [if_neg h1]
    by_cases h2 : m.b u < m.b s
    · rw [if_pos h2]
      have hi := m.in_us hu hs h2
      exact ⟨hi.1, Int.le_refl _, fun _ => ⟨hi.2, Int.le_refl _⟩⟩
    · rw [if_neg h2]
      have eb : m.b (uKd s.rk) = m.b s := uKd_b m (by have := s.rk_lt; omega)
      have hle : m.b u ≤ m.b s := h.wle (i := u.rk) (j := s.rk) (by omega)
      refine ⟨(m.in_same (a := u) (b := uKd s.rk) (by rw [hu, uKd_un]) (by rw [eb]; exact hle)).1, m.hi_su h (uKd_un m _) hs (by rw [eb]; exact Nat.le_refl _), fun z => by rw [uKd_un] at z; cases z⟩
theorem Md.com2_ok (m : Md) (h : m.Ok) (a b : Kd) :
    m.high a ≤ m.high (m.com2 a b) ∧ m.high b ≤ m.high (m.com2 a b) ∧ (m.un (m.com2 a b) = false → m.low (m.com2 a b) ≤ m.low a ∧ m.low (m.com2 a b) ≤ m.low b) := by
  unfold Md.com2
  by_cases h1 : m.un a = m.un b
  · rw [if_pos h1]
    by_cases h2 : b.rk ≤ a.rk
    · rw [if_pos h2]
      have hi := m.in_same h1.symm (h.wle h2)
      exact ⟨Int.le_refl _, hi.1, fun _ => ⟨Int.le_refl _, hi.2⟩⟩
    · rw [if_neg h2]
      have hi := m.in_same h1 (h.wle (i := a.rk) (j := b.rk) (by omega))
      exact ⟨hi.1, Int.le_refl _, fun _ => ⟨hi.2, Int.le_refl _⟩⟩
  · rw [if_neg h1]
    cases hu : m.un a
    · have hb : m.un b = true := by
        cases hb : m.un b
        · rw [hu, hb] at h1
          exact absurd rfl h1
        · rfl
      rw [if_neg (by decide)]
      obtain ⟨x, y, z⟩ := m.mix_ok h hb hu
      exact ⟨y, x, fun w => (z w).symm⟩
    · have hb : m.un b = false := by
        cases hb : m.un b
        · rfl
        · rw [hu, hb] at h1
          exact absurd rfl h1
      rw [if_pos rfl]
      exact m.mix_ok h hu hb
theorem Md.com_ok (m : Md) (h : m.Ok) (k l : Kd) :
    m.high k ≤ m.high (m.com k l) ∧ m.high l ≤ m.high (m.com k l) ∧ (m.low (m.com k l) < 0 → m.low (m.com k l) ≤ m.low k) := by
  obtain ⟨x, y, z⟩ := m.com2_ok h (m.prom k) (m.prom l)
  have p1 := m.prom_in h k
  have p2' := m.prom_in h l
  refine ⟨Int.le_trans p1.1 x, Int.le_trans p2'.1 y, fun w => ?_⟩
  have hu : m.un (m.com2 (m.prom k) (m.prom l)) = false := by
    cases hu : m.un (m.com2 (m.prom k) (m.prom l))
    · rfl
    · have e : m.low (m.com k l) = 0 := by
        unfold Md.low Md.com
        rw [if_pos hu]
      omega
  exact Int.le_trans (z hu).1 p1.2
theorem Md.low_le (m : Md) (k : Kd) : m.low k ≤ 0 ∧ 0 ≤ m.high k := by
  unfold Md.low Md.high
  have h1 := p2 (m.b k)
  have h2 := p2 (m.b k - 1)
  split <;> omega
section
variable {K : PySem.W.Frag} {σ : L2.St} {H : Hp} {tl : TE} {xs : List V} {tu tz : TS} {D : Ends}
theorem q_forNT {j : Nat} (h : EvU tl σ H xs) (Pv : Addr → Nat → L2.St → Hp → Prop) (h0 : ∀ p H1, H p = none → Ex H H1 → H1 p = some (.tup xs) → Pv p 0 σ H1) (hl : ∀ p i σ' H', i ≤ xs.length → Pv p i σ' H' → SqT K H' p xs)
    (hs : ∀ p i x σ' H', xs[i]? = some x → Pv p i σ' H' → tu { D with nx := Pv p (i + 1), ct := Pv p (i + 1), bk := tz D } (σ'.set j (some x)) H') (hd : ∀ p σ' H', Pv p xs.length σ' H' → tz D σ' H') : tSeq (tFor (iTup K tl) (gName j) tu) tz D σ H :=
  h H (Ex.refl H) _ fun p H1 n1 e1 h1 => ⟨p, rfl, ⟨xs, st_of h1⟩, for_tup (D := { D with nx := tz D }) (Pv p) (h0 p H1 n1 e1 h1) (hl p) (hs p) (hd p)⟩
end
end Cf

namespace Cf
open PySem PySem.Spec PyProof.Rows L2 Evl
/-! ## == of dicts whose keys are tuples -/
section
variable {prog : Program} {w : World} {K : Type} [DecidableEq K] {knd : HeapKind prog w K} {A : Around} {E : Value → Shared → Prop} {s : Shared}
theorem samePairsH {nm : String} {a b : Addr} {ka kb : List (K × Addr × Value)} {Q : Bool → Shared → Prop} (hu : knd.room A) (ha : (a == sysModules) = false) (hb : (b == sysModules) = false)
    (da : s.heap.DictOfH knd a ka) (db : s.heap.DictOfH knd b kb) (hl : ka.length = kb.length)
    (hits : ∀ (i : Nat) (x : K × Addr × Value), ka[i]? = some x → (∃ (j : Nat) (p : Addr × Value), kb[j]? = some (x.1, p)) ∧ ∀ (j : Nat) (p : Addr × Value), kb[j]? = some (x.1, p) → SeqAt.EqAt A s x.2.2 p.2 true)
    (h : Q true s) : wpAny (model prog w) A (Builtin.Dict.samePairs nm a b) Q E s := by
  obtain ⟨oa, es, ep, hoa, _, hda, hea, hka, hna⟩ := da
  obtain ⟨ob, es', ep', hob, _, hdb, heb, hkb, hnb⟩ := db
  have hla : es.size = ka.length := size_of_entries hea
  have hlb : es'.size = kb.length := size_of_entries heb
  unfold Builtin.Dict.samePairs Builtin.Dict.showsAll
  rw [if_neg (show ¬ (a == sysModules) = true by rw [ha]; exact Bool.false_ne_true), if_neg (show ¬ (b == sysModules) = true by rw [hb]; exact Bool.false_ne_true)]
  refine wpAny_bind (wpAny_pure (wpAny_bind (wpAny_pure ?_)))
  refine wpAny_bind (wpAny_dictEntries hoa hda ?_)
  dsimp only
  refine wpAny_bind (wpAny_dictEntries hob hdb ?_)
  have hsz : es.size = es'.size := by omega
  rw [if_neg (by rw [hsz]; simp)]
  refine wpAny_bind (wpAny_dictEpoch hoa hda ?_)
  refine wpAny_bind ?_
  rw [Std.Legacy.Range.forIn_eq_forIn_range']
  simp only [Std.Legacy.Range.size, Nat.sub_zero, Nat.add_sub_cancel, Nat.div_one]
  refine wpAny_forIn_list _
    (fun rest q s' => s' = s ∧ q = (none, ()) ∧ ∃ i, rest = List.range' i (es.size - i) ∧ i ≤ es.size)
    _ ?_ ?_ _ _ ⟨rfl, rfl, 0, by simp, Nat.zero_le _⟩
  · rintro x rest q s' ⟨rfl, rfl, i, hr, hi⟩
    have hlt : i < es.size := by
      rcases Nat.lt_or_ge i es.size with h | h
      · exact h
      · rw [Nat.sub_eq_zero_of_le h] at hr; simp at hr
    obtain ⟨rfl, hrest⟩ : x = i ∧ rest = List.range' (i + 1) (es.size - (i + 1)) := by
      have e : es.size - i = (es.size - (i + 1)) + 1 := by omega
      rw [e, List.range'_succ] at hr
      injection hr with h1 h2
      exact ⟨h1, h2⟩
    refine wpAny_bind (wpAny_dictEntries hoa hda ?_)
    have hlt' : x < ka.length := by omega
    rw [entry_at hea x, List.getElem?_eq_getElem hlt']
    obtain ⟨⟨j0, p0, hj0⟩, hall⟩ := hits x ka[x] (List.getElem?_eq_getElem hlt')
    have hk := hka ka[x] (List.getElem_mem hlt')
    generalize ka[x] = y at hk hj0 hall ⊢
    show wpAny _ _ (holding [(entryOfKey knd y).key, (entryOfKey knd y).val] _ >>= _) _ _ _
    refine wpAny_bind (wpAny_holding (wpAny_bind (wpAny_dictFind_heap (k := y.1) (a := y.2.1) hu hk hob hdb heb hkb hnb (fun hn => absurd hj0 (hn _ _)) fun j p hj => ?_)))
    refine wpAny_bind (wpAny_dictEntries hob hdb ?_)
    rw [entry_at heb j, hj]
    refine wpAny_holding (hall j p hj prog w _ _ ?_)
    show wpAny _ _ (if (!true) = true then _ else _) _ _ _
    rw [if_neg (by decide)]
    refine wpAny_bind (wpAny_dictEpoch hoa hda ?_)
    rw [if_neg (by simp)]
    exact wpAny_pure ⟨rfl, rfl, x + 1, hrest, by omega⟩
  · rintro q s' ⟨rfl, rfl, i, hr, hi⟩
    exact wpAny_pure h
theorem keyed_ne {a b : Addr} {ka kb : List (K × Addr × Value)} {Q : Value → Shared → Prop} (hr : knd.room A.in1) (ha : (a == sysModules) = false) (hb : (b == sysModules) = false)
    (da : s.heap.DictOfH knd a ka) (db : s.heap.DictOfH knd b kb) (hu : A.units < cLine) (hl : ka.length = kb.length)
    (hits : ∀ (i : Nat) (x : K × Addr × Value), ka[i]? = some x → (∃ (j : Nat) (p : Addr × Value), kb[j]? = some (x.1, p)) ∧ ∀ (j : Nat) (p : Addr × Value), kb[j]? = some (x.1, p) → SeqAt.EqAt A.in1 s x.2.2 p.2 true)
    (h : Q (.bool false) s) : wpAny (model prog w) A (compareOp .NotEq (.ref a) (.ref b)) Q E s := by
  refine wpAny_richCompare_same_room (op := .NotEq) da.typeIs db.typeIs PySem.F.slot_dict_ne (wpAny_call_entry PySem.F.slot_dict_ne da.typeIs PySem.F.entry_dict_ne ?_ (PySem.F.args_dict_ne_2 _ _)) hu
  show wpAny _ _ (Builtin.Dict.dictSlotArgs "__ne__" ⟨[.ref a, .ref b], []⟩ >>= _) _ _ s
  refine wpAny_bind ?_
  unfold Builtin.Dict.dictSlotArgs
  refine wpAny_bind (wpAny_notOrdered_dict da.typeIs ?_)
  show wpAny _ _ (pure (Value.ref a, Value.ref b)) _ _ s
  refine wpAny_pure ?_
  refine wpAny_bind (wpAny_isInstance (T := "dict") db.typeIs PySem.F.sub_dict_dict ?_)
  simp only [Bool.not_true, Bool.false_eq_true, if_false]
  refine wpAny_bind (wpAny_pure (wpAny_bind (wpAny_pure ?_)))
  refine wpAny_bind (samePairsH hr ha hb da db hl hits ?_)
  refine wpAny_pure ⟨_, rfl, ?_, ?_⟩
  · exact fun x => nomatch x
  · simpa using h
end
theorem paired_at {α β : Type} {F : α → β → Prop} : ∀ {l₁ : List α} {l₂ : List β}, Paired F l₁ l₂ → ∀ {i : Nat} {b : β}, l₂[i]? = some b → ∃ a, l₁[i]? = some a ∧ F a b
  | _, _, .nil, _, _, h => nomatch h
  | _, _, .cons f r, 0, b, h => by
    obtain rfl := Option.some.inj h
    exact ⟨_, rfl, f⟩
  | _, _, .cons f r, i + 1, b, h => paired_at (i := i) r h
theorem paired_at1 {α β : Type} {F : α → β → Prop} : ∀ {l₁ : List α} {l₂ : List β}, Paired F l₁ l₂ → ∀ {i : Nat} {a : α}, l₁[i]? = some a → ∃ b, l₂[i]? = some b ∧ F a b
  | _, _, .nil, _, _, h => nomatch h
  | _, _, .cons f r, 0, b, h => by
    obtain rfl := Option.some.inj h
    exact ⟨_, rfl, f⟩
  | _, _, .cons f r, i + 1, b, h => paired_at1 (i := i) r h
theorem nd_at {α : Type} {l : List α} (h : l.Nodup) {i j : Nat} {a : α} (hi : l[i]? = some a) (hj : l[j]? = some a) : i = j := by
  obtain ⟨hi1, hi2⟩ := List.getElem?_eq_some_iff.mp hi
  obtain ⟨hj1, hj2⟩ := List.getElem?_eq_some_iff.mp hj
  have hp := List.pairwise_iff_getElem.mp h
  rcases Nat.lt_trichotomy i j with q | q | q
  · exact absurd (hi2.trans hj2.symm) (hp i j hi1 hj1 q)
  · exact q
  · exact absurd (hj2.trans hi2.symm) (hp j i hj1 hi1 q)
theorem nodup_at {α β : Type} {l : List (α × β)} (h : (l.map (·.1)).Nodup) {i j : Nat} {k : α} {x y : β} (hi : l[i]? = some (k, x)) (hj : l[j]? = some (k, y)) : i = j := by
  have hi' : (l.map (·.1))[i]? = some k := by rw [List.getElem?_map, hi]; rfl
  have hj' : (l.map (·.1))[j]? = some k := by rw [List.getElem?_map, hj]; rfl
  exact nd_at h hi' hj'
/-- != of two dicts with the same pairs, keys tuples, values texts -/
def rNeT : R2 := fun x y H Q => ∃ a b kvs, x = .ref a ∧ y = .ref b ∧ H a = some (.dT kvs) ∧ H b = some (.dT kvs) ∧ (∀ p ∈ kvs, ∃ z, p.2 = .str z) ∧ Q (.bl false) H
theorem op_neT {X : Cx} (hu : X.A.units + 1 < cLine) : OpR X (compareOp .NotEq) rNeT := by
  intro pins s σ H x y v u Q I rx ry h
  obtain ⟨a, b, kvs, rfl, rfl, ea, eb, hp, q⟩ := h
  obtain rfl : v = Value.ref a := rx
  obtain rfl : u = Value.ref b := ry
  obtain ⟨_, ya, xa, ra, da⟩ := dt_of I.hok ea
  obtain ⟨_, yb, xb, rb, db⟩ := dt_of I.hok eb
  have la := Paired.length ra
  have lb := Paired.length rb
  have nb : (xb.map (·.1)).Nodup := by
    obtain ⟨_, _, _, _, _, _, _, _, n⟩ := db
    exact n
  refine keyed_ne (tupleKind_room_in1 hu) ya yb da db (by omega) (la.symm.trans lb) (fun i x hx => ?_) ⟨.bl false, H, I, rfl, q⟩
  obtain ⟨p, hpi, e1, _, r1⟩ := paired_at ra hx
  obtain ⟨y, hy, f1, _, r2⟩ := paired_at1 rb hpi
  have ey : xb[i]? = some (x.1, y.2) := by
    rw [hy]
    congr 1
    exact Prod.ext (f1.symm.trans e1) rfl
  refine ⟨⟨i, y.2, ey⟩, fun j p' hj => ?_⟩
  obtain rfl : i = j := nodup_at nb ey hj
  obtain rfl : y.2 = p' := by
    rw [ey] at hj
    exact (Prod.mk.inj (Option.some.inj hj)).2
  obtain ⟨z, hz⟩ := hp p (List.mem_of_getElem? hpi)
  rw [hz] at r1 r2
  obtain ⟨t1, g1⟩ := (show ∃ t, x.2.2 = Value.str z t from r1)
  obtain ⟨t2, g2⟩ := (show ∃ t, y.2.2 = Value.str z t from r2)
  rw [g1, g2]
  have := PySem.W.keq_flat (A := X.A.in1) (s := s) (v := Value.str z t1) (y := Value.str z t2) (d := .str z) (e := .str z) (fun _ => Reads.str z t1) (fun _ => Reads.str z t2)
  simpa [PyData.eqv] using this

/-! ## the table of all common types -/
def prs : List (Kd × Kd) := Kd.all.flatMap fun k => Kd.all.map fun l => (k, l)
def keyOf (p : Kd × Kd) : List Key := [.inr p.1.s, .inr p.2.s]
def Md.ent (m : Md) (p : Kd × Kd) : List Key × V := (keyOf p, (m.com p.1 p.2).v)
def Md.tabN (m : Md) (n : Nat) : List (List Key × V) := (prs.take n).map m.ent
def Md.tab (m : Md) : List (List Key × V) := prs.map m.ent
theorem kd_s {k l : Kd} (h : k.s = l.s) : k = l := by
  have e := kd_eq k l
  have e2 : eqV k.v l.v = decide (k.s = l.s) := by cases k <;> cases l <;> rfl
  rw [e2, decide_eq_true h] at e
  exact of_decide_eq_true e.symm
theorem key_inj {p q : Kd × Kd} (h : keyOf p = keyOf q) : p = q := by
  obtain ⟨k, l⟩ := p
  obtain ⟨k2, l2⟩ := q
  unfold keyOf at h
  simp only [List.cons.injEq, Sum.inr.injEq, and_true] at h
  exact Prod.ext (kd_s h.1) (kd_s h.2)
theorem key_kV (k l : Kd) : (keyOf (k, l)).map kV = [k.v, l.v] := rfl
theorem mem_prs : ∀ (k l : Kd), (k, l) ∈ prs := fun k l => by cases k <;> cases l <;> decide +kernel
theorem prs_at (k l : Kd) : prs[11 * k.ix + l.ix]? = some (k, l) := by cases k <;> cases l <;> rfl
theorem prs_nodup : prs.Nodup := by decide +kernel
theorem prs_len : prs.length = 121 := by decide +kernel
theorem Md.tab_get (m : Md) (k l : Kd) : valV m.tab (keyOf (k, l)) = some (m.com k l).v := by
  have key : ∀ xs : List (Kd × Kd), (k, l) ∈ xs → valV (xs.map m.ent) (keyOf (k, l)) = some (m.com k l).v := by
    intro xs
    induction xs with
    | nil => intro h; exact nomatch h
    | cons x xs ih =>
      intro h
      by_cases e : x = (k, l)
      · subst e
        simp [valV, Md.ent]
      · have hk : keyOf x ≠ keyOf (k, l) := fun z => e (key_inj z)
        have := ih (by rcases List.mem_cons.mp h with z | z; exact absurd z.symm e; exact z)
        simpa [valV, Md.ent, hk] using this
  exact key prs (mem_prs k l)
theorem Md.tab_put (m : Md) {n : Nat} {p : Kd × Kd} (h : prs[n]? = some p) : putK (m.tabN n) (keyOf p) (m.com p.1 p.2).v = m.tabN (n + 1) := by
  obtain ⟨hn, e⟩ := List.getElem?_eq_some_iff.mp h
  have hno : ((m.tabN n).any fun kv => decide (kv.1 = keyOf p)) = false := by
    rw [List.any_eq_false]
    intro x hx
    obtain ⟨q, hq, rfl⟩ := List.mem_map.mp hx
    intro z
    have eq : q = p := key_inj (of_decide_eq_true z)
    subst eq
    obtain ⟨i, hi⟩ := List.mem_iff_getElem?.mp hq
    rw [List.getElem?_take] at hi
    split at hi
    · rename_i hlt
      have := nd_at prs_nodup hi h
      omega
    · exact nomatch hi
  unfold putK
  rw [hno, if_neg (by decide)]
  unfold Md.tabN
  rw [List.take_add_one, h, List.map_append]
  rfl
theorem Md.tab_str (m : Md) : ∀ p ∈ m.tab, ∃ z, p.2 = V.str z := by
  intro p hp
  obtain ⟨q, _, rfl⟩ := List.mem_map.mp hp
  exact ⟨_, rfl⟩
theorem Md.tab_all (m : Md) : m.tabN 121 = m.tab := by
  unfold Md.tabN Md.tab
  rw [← prs_len, List.take_length]
theorem Md.tabN_len (m : Md) (n : Nat) : (m.tabN n).length ≤ 121 := by
  unfold Md.tabN
  rw [List.length_map, List.length_take, prs_len]
  omega
end Cf

namespace Cf
open PySem PySem.Spec PyProof.Rows L2 Evl
/-! ## common types, finitely -/
/-- of two promoted types, by p: int is narrower than long; q: long is narrower than wide -/
def cm (p q : Bool) (a b : Kd) : Kd :=
  if a = b then a else match a, b with
  | .ui, .it => .ui | .it, .ui => .ui
  | .ui, .lo => if p then .lo else .ul | .lo, .ui => if p then .lo else .ul
  | .ui, .wi => if p || q then .wi else .uw | .wi, .ui => if p || q then .wi else .uw
  | .ul, .wi => if q then .wi else .uw | .wi, .ul => if q then .wi else .uw
  | .ul, .lo => .ul | .lo, .ul => .ul | .wi, .uw => .uw | .uw, .wi => .uw
  | a, b => if b.rk ≤ a.rk then a else b
theorem Md.com2_cm {m : Md} (o : m.Ok) {a b : Kd} (ha : a.big) (hb : b.big) : m.com2 a b = cm (decide (m.w2 < m.w3)) (decide (m.w3 < m.w4)) a b := by
  obtain ⟨h0, h1, h2, h3, h4, h5⟩ := o
  have e : (decide (m.w2 < m.w3) || decide (m.w3 < m.w4)) = decide (m.w2 < m.w4) := by
    by_cases x : m.w2 < m.w3 <;> by_cases y : m.w3 < m.w4 <;> simp [x, y] <;> omega
  rcases ha with rfl | rfl | rfl | rfl | rfl | rfl <;> rcases hb with rfl | rfl | rfl | rfl | rfl | rfl <;>
    simp [Md.com2, Md.mix, Md.un, Kd.rk, uKd, Md.b, Md.w, cm, e]
def bigs : List Kd := [.it, .ui, .lo, .ul, .wi, .uw]
theorem big_mem {k : Kd} (h : k.big) : k ∈ bigs := by
  rcases h with rfl | rfl | rfl | rfl | rfl | rfl <;> decide
theorem mem_big {k : Kd} (h : k ∈ bigs) : k.big := by
  unfold bigs at h
  unfold Kd.big
  simpa using h
theorem cm_facts : ([true, false].all fun p => [true, false].all fun q => bigs.all fun a => bigs.all fun b => decide (cm p q a b ∈ bigs) && bigs.all fun c => decide (cm p q (cm p q a b) c = cm p q a (cm p q b c))) = true := by decide +kernel
theorem cm_big (p q : Bool) {a b : Kd} (ha : a.big) (hb : b.big) : (cm p q a b).big := by
  have h := cm_facts
  simp only [List.all_eq_true] at h
  have h1 := h p (by cases p <;> decide) q (by cases q <;> decide) a (big_mem ha) b (big_mem hb)
  rw [Bool.and_eq_true] at h1
  exact mem_big (of_decide_eq_true h1.1)
theorem cm_assoc (p q : Bool) {a b c : Kd} (ha : a.big) (hb : b.big) (hc : c.big) : cm p q (cm p q a b) c = cm p q a (cm p q b c) := by
  have h := cm_facts
  simp only [List.all_eq_true] at h
  have h1 := h p (by cases p <;> decide) q (by cases q <;> decide) a (big_mem ha) b (big_mem hb)
  rw [Bool.and_eq_true, List.all_eq_true] at h1
  exact of_decide_eq_true (h1.2 c (big_mem hc))
theorem cm_self (p q : Bool) (a : Kd) : cm p q a a = a := by
  unfold cm
  rw [if_pos rfl]
theorem Md.prom_of_big (m : Md) {k : Kd} (h : k.big) : m.prom k = k := by
  unfold Md.prom
  rw [if_pos (big_rk h).1]
section
variable {m : Md} (o : m.Ok)
include o
theorem Md.com_cm (k l : Kd) : m.com k l = cm (decide (m.w2 < m.w3)) (decide (m.w3 < m.w4)) (m.prom k) (m.prom l) := m.com2_cm o (m.prom_big k) (m.prom_big l)
theorem Md.com_big (k l : Kd) : (m.com k l).big := by
  rw [m.com_cm o]
  exact cm_big _ _ (m.prom_big k) (m.prom_big l)
theorem Md.com_self (k : Kd) : m.com k k = m.prom k := by
  rw [m.com_cm o, cm_self]
theorem Md.com_assoc (k l t : Kd) : m.com (m.com k l) t = m.com k (m.com l t) := by
  rw [m.com_cm o (m.com k l) t, m.prom_of_big (m.com_big o k l), m.com_cm o k (m.com l t), m.prom_of_big (m.com_big o l t), m.com_cm o k l, m.com_cm o l t]
  exact cm_assoc _ _ (m.prom_big k) (m.prom_big l) (m.prom_big t)
theorem Md.com_l (k l : Kd) : m.com (m.com k l) l = m.com k l := by
  rw [m.com_assoc o, m.com_self o, m.com_cm o k (m.prom l), m.prom_of_big (m.prom_big l), ← m.com_cm o]
theorem Md.com_k (k l : Kd) : m.com (m.com k l) k = m.com k l := by
  rw [m.com_comm k l]
  exact m.com_l o l k
theorem Md.com_up {k l t : Kd} (h1 : m.com t k = t) (h2 : m.com t l = t) : m.com t (m.com k l) = t := by
  rw [← m.com_assoc o, h1, h2]
end
/-- wider by steps that stay where neighbours are equal -/
structure Md.Like (m n : Md) : Prop where
  u : n.u = m.u
  e0 : (m.w0 < m.w1 ↔ n.w0 < n.w1)
  e1 : (m.w1 < m.w2 ↔ n.w1 < n.w2)
  e2 : (m.w2 < m.w3 ↔ n.w2 < n.w3)
  e3 : (m.w3 < m.w4 ↔ n.w3 < n.w4)
theorem Md.Like.un {m n : Md} (h : m.Like n) (k : Kd) : n.un k = m.un k := by
  cases k <;> simp [Md.un, h.u]
theorem Md.Like.prom {m n : Md} (h : m.Like n) (o : m.Ok) (o2 : n.Ok) (k : Kd) : n.prom k = m.prom k := by
  obtain ⟨hu, e0, e1, e2, e3⟩ := h
  obtain ⟨h0, h1, h2, h3, h4, h5⟩ := o
  obtain ⟨g0, g1, g2, g3, g4, g5⟩ := o2
  have c0 : m.w2 ≤ m.w0 ↔ n.w2 ≤ n.w0 := by omega
  have c1 : m.w2 ≤ m.w1 ↔ n.w2 ≤ n.w1 := by omega
  cases k <;> simp [Md.prom, Md.un, Kd.rk, Md.b, Md.w, hu, c0, c1]
theorem Md.Like.com {m n : Md} (h : m.Like n) (o : m.Ok) (o2 : n.Ok) (k l : Kd) : n.com k l = m.com k l := by
  rw [n.com_cm o2, m.com_cm o, h.prom o o2, h.prom o o2]
  have e2 : decide (n.w2 < n.w3) = decide (m.w2 < m.w3) := decide_eq_decide.mpr h.e2.symm
  have e3 : decide (n.w3 < n.w4) = decide (m.w3 < m.w4) := decide_eq_decide.mpr h.e3.symm
  rw [e2, e3]
theorem Md.Like.tab {m n : Md} (h : m.Like n) (o : m.Ok) (o2 : n.Ok) : n.tab = m.tab := by
  unfold Md.tab
  refine List.map_congr_left fun p _ => ?_
  unfold Md.ent
  rw [h.com o o2]
/-! ### readings -/
def EvD (te : TE) (σ : L2.St) (H : Hp) (kvs : List (List Key × V)) : Prop := ∀ H1, Ex H H1 → ∀ Q : VK, (∀ p H2, H1 p = none → Ex H1 H2 → H2 p = some (.dT kvs) → Q (.ref p) H2) → te σ H1 Q
def spTab (K : PySem.W.Frag) : Sp := fun vs H Q _ => ∃ p m, vs = [.ref p] ∧ AtM K H p m ∧ m.Ok ∧ ∀ D H', H D = none → Ex H H' → H' D = some (.dT m.tab) → Q (.ref D) H'
section
variable {K : PySem.W.Frag} {σ : L2.St} {H : Hp} {ta tb tc tv : TE} {tk : TA} {tz : TS} {D : Ends} {a p : Addr} {kvs : List (List Key × V)} {k : List Key} {v : V} {m : Md}
theorem ev_tab (h : EvA tk σ H [.ref p]) (hm : AtM K H p m) (o : m.Ok) : EvD (tCall (spTab K) [] E0 tk) σ H m.tab := fun H1 e Q q =>
  h H1 e _ fun H2 e2 => ⟨p, m, rfl, hm.ex (e.trans e2), o, fun q2 H3 n e3 h3 => q q2 H3 (fresh_back e2 n) (e2.trans e3) h3⟩
theorem ev_dget (ha : Ev ta σ H (.ref a)) (hk : EvU tb σ H (k.map kV)) (h : H a = some (.dT kvs)) (hv : valV kvs k = some v) : Ev (tDGet ta tb) σ H v := fun H1 e Q q =>
  ha H1 e _ fun H2 e2 => hk H2 (e.trans e2) _ fun p H3 np e3 h3 => ⟨a, v, rfl, by
    have g := DGet.t (k := k) (e3 _ _ (e2 _ _ (e _ _ h))) h3
    rw [hv] at g
    exact g, q H3 (e2.trans e3)⟩
/-- table[k, l] -/
theorem ev_tget {k l : Kd} (ha : Ev ta σ H (.ref a)) (hb : Ev tb σ H k.v) (hc : Ev tc σ H l.v) (h : H a = some (.dT m.tab)) : Ev (tDGet ta (tTup (tCons tb (tCons tc tNil)))) σ H (m.com k l).v :=
  ev_dget (k := keyOf (k, l)) ha (eu_tup (ea_cons hb (ea_cons hc ea_nil)) (by show 2 ≤ 100000; decide)) h (m.tab_get k l)
theorem s_dput (hv : Ev tv σ H v) (ho : Ev ta σ H (.ref a)) (hk : EvU tb σ H (k.map kV)) (h : H a = some (.dT kvs)) (hl : kvs.length < 100000) (n : ∀ H1, Ex H H1 → D.nx σ (upd H1 a (.dT (putK kvs k v)))) : sDPut ta tb tv D σ H :=
  hv H (Ex.refl H) _ fun H1 e1 => ho H1 e1 _ fun H2 e2 => hk H2 (e1.trans e2) _ fun p H3 np e3 h3 => ⟨a, _, rfl, DPut.t (k := k) (e3 _ _ (e2 _ _ (e1 _ _ h))) h3 (sz_lt hl), n H3 ((e1.trans e2).trans e3)⟩
theorem ev_neDD {xs ys : List (List Key × V)} (ha : EvD ta σ H xs) (hb : EvD tb σ H ys) (e : xs = ys) (hs : ∀ p ∈ xs, ∃ z, p.2 = V.str z) : Ev (tOp rNeT ta tb) σ H (.bl false) := by
  subst e
  exact fun H1 e Q q => ha H1 e _ fun p H2 np e2 h2 => hb H2 (e.trans e2) _ fun p2 H3 np2 e3 h3 => ⟨p, p2, xs, rfl, rfl, e3 _ _ h2, h3, hs, q H3 (e2.trans e3)⟩
end
end Cf
namespace Cf
open PySem PySem.Spec PyProof.Rows L2 Evl
/-- widths so far, each with what was added, which ascends and stays where neighbours are equal -/
def Wd (m : Md) (d : Int) : Nat → List Int → Int → Prop
  | 0, xs, b => xs = [] ∧ b = 0
  | i + 1, xs, b => ∃ ys c, xs = ys ++ [(m.w i : Int) + b] ∧ Wd m d i ys c ∧ c ≤ b ∧ b ≤ c + d ∧ (i ≠ 0 → m.w i = m.w (i - 1) → b = c)
def spWider (K : PySem.W.Frag) : Sp := fun vs H Q _ => ∃ r p m n, vs = [.ref r, .ref p] ∧ AtM K H p m ∧ m.Ok ∧ n < 2 ^ 50 ∧ Rng H r n ∧
  ∀ p' H' m', Bu r H H' → Rng H' r (n + 5) → AtM K H' p' m' → m.Like m' → m'.Ok → Q (.ref p') H'
theorem Wd.end_ {m : Md} (o : m.Ok) {xs : List Int} {b : Int} (h : Wd m ((128 - (m.w4 : Int)) / 5) 5 xs b) : ∃ n : Md, n.ns = xs ∧ n.u = m.u ∧ m.Like n ∧ n.Ok := by
  obtain ⟨_, b4, rfl, ⟨_, b3, rfl, ⟨_, b2, rfl, ⟨_, b1, rfl, ⟨_, b0, rfl, ⟨rfl, rfl⟩, a0, c0, _⟩, a1, c1, d1⟩, a2, c2, d2⟩, a3, c3, d3⟩, a4, c4, d4⟩ := h
  have d1 := d1 (by decide)
  have d2 := d2 (by decide)
  have d3 := d3 (by decide)
  have d4 := d4 (by decide)
  simp only [Md.w] at d1 d2 d3 d4
  have d1 : m.w1 = m.w0 → _ := d1
  have d2 : m.w2 = m.w1 → _ := d2
  have d3 : m.w3 = m.w2 → _ := d3
  have d4 : m.w4 = m.w3 → _ := d4
  obtain ⟨h0, h1, h2, h3, h4, h5⟩ := o
  refine ⟨⟨(m.w0 + b1).toNat, (m.w1 + b2).toNat, (m.w2 + b3).toNat, (m.w3 + b4).toNat, (m.w4 + b).toNat, m.u⟩, ?_, rfl, ⟨rfl, ?_, ?_, ?_, ?_⟩, ⟨?_, ?_, ?_, ?_, ?_, ?_⟩⟩
  · show [(((m.w0 : Int) + b1).toNat : Int), (((m.w1 : Int) + b2).toNat : Int), (((m.w2 : Int) + b3).toNat : Int), (((m.w3 : Int) + b4).toNat : Int), (((m.w4 : Int) + b).toNat : Int)] = [(m.w0 : Int) + b1, (m.w1 : Int) + b2, (m.w2 : Int) + b3, (m.w3 : Int) + b4, (m.w4 : Int) + b]
    rw [Int.toNat_of_nonneg (by omega), Int.toNat_of_nonneg (by omega), Int.toNat_of_nonneg (by omega), Int.toNat_of_nonneg (by omega), Int.toNat_of_nonneg (by omega)]
  all_goals (dsimp only; omega)
theorem ev_ww {K : PySem.W.Frag} {σ : L2.St} {H : Hp} {p : Addr} {m : Md} {i j : Nat} {tj : TE} (hm : AtM K H p m) (hi : σ[i]? = some (some (.ref p))) (hj : j < 5) (h : Ev tj σ H (.int (j : Nat))) :
    Ev (tOp (rIxT K) (tOp (rIxT K) (tVar i) (tC (.int 0))) tj) σ H (.int (m.w j : Nat)) := by
  obtain ⟨q, a, b⟩ := hm
  exact ev_op (ev_op (ev_var hi) ev_c (rv_ixT a (atI_nat (j := 0) rfl))) h (rv_ixT b (atI_nat (Md.at_ hj)))
theorem par_raw {ta : TA} {tz : TS} {D : Ends} {i j : Nat} {σ : L2.St} {H : Hp} (h : ta σ H fun vs H1 => ∃ v w, vs = [v, w] ∧ tz D ((σ.set i (some v)).set j (some w)) H1) : tSeq (tPar i j ta) tz D σ H := h
theorem ea_atD {te : TE} {tr : TA} {σ : L2.St} {H : Hp} {xs : List (List Key × V)} {Q : List V → Hp → Prop} (h : EvD te σ H xs) (k : ∀ p H1, H p = none → Ex H H1 → H1 p = some (.dT xs) → tr σ H1 fun ys H2 => Q (.ref p :: ys) H2) : tCons te tr σ H Q := h H (Ex.refl H) _ k
end Cf

namespace Cf
open PySem PySem.Spec PyProof.Rows L2 Evl
/-! ## an exception that outlives its except suite -/
/-- at a: an exception that was caught, of the class cls, its dict d -/
def exk (a : Addr) (cls : Value) (d : Option Addr) : HO := .ext fun h => ∃ oe : Obj, h.get? a = some oe ∧ Zc cls d oe ∧ ∃ vs, oe.data = .fields vs
theorem exk_ok {P : Program} {w : World} {H : Hp} {h : Heap} {a : Addr} {cls : Value} {d : Option Addr} {oe : Obj} (e : h.get? a = some oe) (z : Zc cls d oe) (f : ∃ vs, oe.data = .fields vs) : ObjOk P w H h a (exk a cls d) :=
  ⟨⟨oe, e, z, f⟩, ⟨oe, e⟩, fun h1 h2 x k => by
    obtain ⟨o, p, q⟩ := x
    exact ⟨o, k _ p, q⟩⟩
section
variable {X : Cx} {pins : List (Addr × Obj)} {σ : L2.St} {H : Hp} {s : Shared}
/-- an untracked object that was not there at the entry is tracked from here on -/
theorem track {a : Addr} {o : HO} (I : Inv X pins σ H s) (hn : H a = none) (n0 : X.s_0.heap.get? a = none) (nL : a ≠ X.env.locals) (nC : ∀ x c, X.env.cells.lookup x = some c → c ≠ a) (np : ∀ p ∈ X.pn ++ pins, p.1 ≠ a)
    (new : ObjOk X.prog X.w (upd H a o) s.heap a o) : Inv X pins σ (upd H a o) s where
  ok := I.ok
  os := I.os
  bare := I.bare
  base := ⟨I.base.keep, I.base.slot, fun b u q n x => by
      rw [upd_ne (fun z => by rw [z, n0] at q; cases q)]
      exact I.base.free b u q n x, I.base.there, fun b xs q => by
      have := I.base.tups b xs q
      rw [upd_ne (ne_of_none this hn)]
      exact this, fun b u xs q => by
      have := I.base.frzs b u xs q
      rw [upd_ne (ne_of_none this hn)]
      exact this, fun b ps q => by
      obtain ⟨m, e⟩ := I.base.tbls b ps q
      exact ⟨m, by rw [upd_ne (ne_of_none e hn)]; exact e⟩⟩
  loc := I.loc
  cell := I.cell
  free := by rw [upd_ne (Ne.symm nL)]; exact I.free
  freeC := fun x c e => by rw [upd_ne (nC x c e)]; exact I.freeC x c e
  pin := fun p hp => by
    obtain ⟨e1, e2, e3⟩ := I.pin p hp
    exact ⟨e1, by rw [upd_ne (np p hp)]; exact e2, e3⟩
  hok := I.hok.laidN (fun _ _ q => q) hn new
  len := I.len
end
/-- 'except x as n' whose suite runs to its end: the exception stays known behind it -/
def wKeep (K : PySem.W.Frag) (c : Value) (i : Nat) (ts : Addr → Value → Option Addr → TS) (Wout : WX) (D : Ends) : WX := fun cls d σ H =>
  ∃ b, PySem.W.exmOne K cls c = some b ∧ (b = true → ∀ a, H a = none → ts a cls d { nx := fun σ' H' => D.nx (σ'.set i none) (upd H' a (exk a cls d)), rt := fun _ _ => False, bk := fun _ _ => False, ct := fun _ _ => False } (σ.set i (some (.ref a))) H) ∧
    (b = false → Wout cls d σ H)
section
variable {X : Cx} {x n : Str} {c : Value} {i : Nat} {body suite : List Stmt} {b₀ : Stmt} {np pos pos' : Pos} {tb : WX → TS} {ts : Addr → Value → Option Addr → TS} {Wout : WX}
theorem ps_try_keep (hs : X.stack = X.env :: X.outer) (hf : X.env.frame = some X.env.locals) (hex : X.ex = []) (hN : X.N.Nodup) (hi : X.N[i]? = some n) (hln : X.env.kindOf n = some .local) (hc : Names X x c) (tk : Takes X Wout)
    (hb : ∀ (W : WX) (pn : List (Addr × Obj)) (xe : Value → Shared → Prop), Takes (X.tr pn xe) W → PassesOwn (model X.prog X.w) X.A X.env xe → PSs (X.tr pn xe) body (tb W))
    (hsu : ∀ (a : Addr) (oe : Obj) (cls : Value) (d : Option Addr) (pn : List (Addr × Obj)), Zc cls d oe → (∃ vs, oe.data = .fields vs) → PSs (X.suite a ((a, oe) :: pn)) (b₀ :: suite) (ts a cls d)) :
    PS X (.Try body [.ExceptHandler (some (.Name x np)) (some n) (b₀ :: suite) pos'] [] [] pos) (fun D σ H => tb (wKeep X.K c i ts Wout D) D σ H) := by
  refine ⟨fun pins s σ H D I h => ?_⟩
  have ok := I.ok
  have hfr : X.A.frames = some (X.env :: X.outer) := by rw [ok.frames, hs]
  refine wpAny_Try_except (wpAny_mono ((hb (wKeep X.K c i ts Wout D) (X.pn ++ pins) (fun e s₁ => wpAny (model X.prog X.w) X.A (noteFrame e X.env) (fun _ s₂ => wpAny (model X.prog X.w) X.A (setFlight e none) (fun _ s₃ =>
    wpAny (model X.prog X.w) X.A (handleBy e X.env [.ExceptHandler (some (.Name x np)) (some n) (b₀ :: suite) pos']) (SP X pins D) X.xe s₃) X.xe s₂) X.xe s₁) (fun u s' xx => ?_) PassesOwn.looking).run [] s σ H D (I.toTry _) h) (fun f s1 hsp => ?_) (fun e s1 he => he))
  · obtain ⟨a, B, sI, pins', σ', H', cls, d, rfl, J', nb, up, sky, na, os, ag, b, hb1, hyes, hno⟩ := xx
    have J : Inv X pins σ' H' sI := J'.ofTry ok
    show wpAny (model X.prog X.w) X.A (noteFrame (.ref a) X.env) _ _ _
    refine Sky.land Zc.steady hfr hf (by rw [← hs]; exact sky) fun h3 fl3 up3 => ?_
    have J3 : Inv X pins σ' H' { s' with heap := h3 } := J.landed nb fl3.1 (up.trans up3) os ag
    obtain ⟨oe3, vs3, he3, hz3, hd3⟩ := fl3.there
    have nfr : a ∉ frs (X.env :: X.outer) := fun hm => by
      obtain ⟨_, o', e', hnf⟩ := fl3.2.2.1.mem hm
      rw [he3] at e'
      cases e'
      exact hnf _ hd3
    have nL : a ≠ X.env.locals := fun z => nfr (List.mem_filterMap.mpr ⟨X.env, List.mem_cons_self, by rw [hf, z]⟩)
    have nF : a ∉ X.fs := fun hm => by
      obtain ⟨e, he, q⟩ := List.mem_filterMap.mp hm
      exact nfr (List.mem_filterMap.mpr ⟨e, List.mem_cons_of_mem _ he, q⟩)
    have nI : sI.heap.get? a = none := by
      cases q : sI.heap.get? a with
      | none => rfl
      | some o =>
        have z := nb a o q (by rw [hs]; exact nfr)
        rw [fl3.2.1] at z
        cases z
    have n0 : X.s_0.heap.get? a = none := by
      cases q : X.s_0.heap.get? a with
      | none => rfl
      | some o =>
        obtain ⟨o', z⟩ := J.base.there a o q (by rw [hex]; exact fun z => nomatch z)
        rw [nI] at z
        cases z
    have S3 := J3.suite he3 hd3 na nL nF
    refine wpAny_handleBy_cons (codeAny_handlers_test ?_) (by intro q; cases q)
    have LM := PySem.W.exm_one (M := model X.prog X.w) (J3.kIn) (fun A Q E s k q => wpAny_typeOf_ref (k _ _ he3) (by rw [hz3.1]; exact q)) hb1
    have test : ∀ {Q : Value → Shared → Prop} {E : Value → Shared → Prop}, Q c { s' with heap := h3 } → wpAny (model X.prog X.w) (X.A.mark (some (.ref a))) (eval (.Name x np) X.env) Q E { s' with heap := h3 } := fun {Q E} q => by
      obtain ⟨hg, hdbg, hm | ⟨hm, hv, hnn⟩⟩ := hc
      · exact ld_glob (X := X.suite a ((a, oe3) :: (X.pn ++ pins))) S3 hg hm q hdbg
      · exact ld_blt (X := X.suite a ((a, oe3) :: (X.pn ++ pins))) S3 hg hm hv q hnn hdbg
    refine test (LM.here ?_)
    cases b with
    | true =>
      refine codeAny_handlers_suite_as (HandSPX.lands_againZ fl3 fun h4 fl4 up4 => ?_)
      have J4 : Inv X pins σ' H' { s' with heap := h4 } := J.landed nb fl4.1 ((up.trans up3).trans up4) os ag
      obtain ⟨oe4, vs4, he4, hz4, hd4⟩ := fl4.there
      have S4 := J4.suite he4 hd4 na nL nF
      refine store_ok (X := X.suite a ((a, oe4) :: (X.pn ++ pins))) (v := .ref a) S4 hN hi (.inl hln) rfl (fun s5 S5 => ?_) (.inr hln)
      refine wpAny_mono ((hsu a oe4 cls d (X.pn ++ pins) hz4 ⟨_, hd4⟩).run [] s5 _ H' _ S5 (hyes rfl a na)) (fun f s6 hsp => ?_) (fun _ _ z => False.elim z)
      cases f with
      | next =>
        obtain ⟨σ6, H6, S6, q6⟩ := hsp
        obtain ⟨p1, p2, _⟩ := S6.pin (a, oe4) (List.mem_append_left _ List.mem_cons_self)
        have T6 := track (o := exk a cls d) (S6.unsuite ok) p2 n0 nL (fun y c' e z => by
          obtain ⟨v, o, ho, _⟩ := J.cell y c' e
          rw [z, nI] at ho
          cases ho) (fun p hp z => by
          obtain ⟨e1, _⟩ := J.pin p hp
          rw [z, nI] at e1
          cases e1) (exk_ok p1 hz4 ⟨_, hd4⟩)
        exact gone_ok T6 hN hi hln fun s7 J7 => ⟨_, _, J7, q6⟩
      | brk =>
        obtain ⟨_, _, _, q6⟩ := hsp
        exact q6.elim
      | cont =>
        obtain ⟨_, _, _, q6⟩ := hsp
        exact q6.elim
      | ret u =>
        obtain ⟨_, _, _, _, _, q6⟩ := hsp
        exact q6.elim
    | false =>
      show wpAny _ X.A (handleBy (.ref a) X.env []) _ _ _
      refine wpAny_handleBy_nil ?_
      obtain ⟨k1, k2, k3, oe, vs, T, oT, ts', he, hz, hd, h1, hr⟩ := id fl3
      unfold PySem.passOn
      refine wpAny_bind (wpAny_field he hd h1 ?_)
      rw [if_neg (show ¬ ((Value.ref T == Value.none) = true) from by simp)]
      have fin : wpAny (model X.prog X.w) X.A (setFlight (.ref a) X.env.frame) (fun _ s4 => wpAny (model X.prog X.w) X.A (throw (.ref a) : Sem Flow) (SP X pins D) X.xe s4) X.xe { s' with heap := h3 } := by
        rw [hf]
        exact HandSPX.setFlight_upZ fl3 fun h4 hh4 up4 => wpAny_throw (tk _ _ ⟨a, B, sI, pins, σ', H', cls, d, rfl, J, nb, (up.trans up3).trans up4, .inr (.inr (by rw [hs]; exact hh4)), na, os, ag, hno rfl⟩)
      first
        | exact wpAny_bind (wpAny_pure (wpAny_bind fin))
        | exact wpAny_bind fin
  · cases f with
    | next =>
      obtain ⟨σ', H', J', q⟩ := hsp
      exact wpAny_execs_nil ⟨σ', H', J'.ofTry ok, q⟩
    | brk =>
      obtain ⟨σ', H', J', q⟩ := hsp
      exact ⟨σ', H', J'.ofTry ok, q⟩
    | cont =>
      obtain ⟨σ', H', J', q⟩ := hsp
      exact ⟨σ', H', J'.ofTry ok, q⟩
    | ret u =>
      obtain ⟨v, σ', H', J', r, q⟩ := hsp
      exact ⟨v, σ', H', J'.ofTry ok, r, q⟩
end
end Cf

namespace Cf
open PySem PySem.Spec PyProof.Rows L2 Evl
/-! ## own exceptions with one field -/
def vVal : Str := "value"
/-- what is said of the class x at C, its __init__ at fI -/
structure XC (K : PySem.W.Frag) (mg : Str → Option Value) (x : Str) (C fI : Addr) : Prop where
  g : mg x = some (.ref C)
  o : OexC K C
  e : ExcC K C
  no : PySem.W.findIn K (.ref C) vVal = some none
  iC : PySem.W.findIn K (.ref C) "__init__" = some (some (.ref fI))
  tI : PySem.W.typeIn K (.ref fI) = some (.type "function")
/-- __init__(self, value): self.value = value -/
def spInit (K : PySem.W.Frag) : Sp := fun vs H Q _ => ∃ a v C, vs = [.ref a, v] ∧ OexC K C ∧ PySem.W.findIn K (.ref C) vVal = some none ∧ H a = some (exo a C none) ∧
  ∀ dx, H dx = none → dx ≠ a → Q .non (upd (upd H dx (exd dx [(vVal, v)])) a (exo a C (some dx)))
/-- the class with its __init__ as a def -/
def Xi (P : Program) (w : World) (K : PySem.W.Frag) (mg : Str → Option Value) (base : Heap) (x : Str) (C : Addr) : Prop :=
  ∃ fI fd, XC K mg x C fI ∧ FnOk P w K mg base CX0 1 fI fd ["self", "value"] (spInit K) ∧ Binds K fd ["self", "value"] []
/-- a new exception of the class C with v is handed to E -/
def Out (C : Addr) (v : V) (H : Hp) (E : XK) : Prop := ∀ d H', H d = none → Ex H H' → H' d = some (.xd [(vVal, v)]) → E (.ref C) (some d) H'
theorem Out.ex {C : Addr} {v : V} {H H1 : Hp} {E : XK} (h : Out C v H E) (e : Ex H H1) : Out C v H1 E := fun d H' n e2 q => h d H' (fresh_back e n) (e.trans e2) q
def wide (ta : TA) : TA := fun σ H Q => ∃ Q0 : List V → Hp → Prop, ta σ H Q0 ∧ ∀ vs H1, Q0 vs H1 → Q vs H1
theorem pa_wide {X : Cx} {es : List Expr} {ta : TA} (h : PA X es ta) : PA X es (wide ta) := ⟨fun pos pins s σ H Q I q => by
  obtain ⟨Q0, h0, k⟩ := q
  refine wpAny_mono (h.run pos pins s σ H Q0 I h0) (fun us s1 hh => ?_) fun _ _ x => x
  obtain ⟨vs, H1, I1, r, z⟩ := hh
  exact ⟨vs, H1, I1, r, k _ _ z⟩⟩
/-- raise X(e) -/
def tRz (C : Addr) (W : WX) (ta : TA) : TS := fun _ σ H => ta σ H fun vs H1 => ∃ v, vs = [v] ∧ Out C v H1 fun c d H' => W c d σ H'
theorem tMk_of {K : PySem.W.Frag} {C : Addr} {ta : TA} {σ : L2.St} {H : Hp} {Q : XK} (o : OexC K C) (no : PySem.W.findIn K (.ref C) vVal = some none) (h : ta σ H fun vs H1 => ∃ v, vs = [v] ∧ Out C v H1 Q) : tMkO C (spInit K) [] (wide ta) σ H Q := by
  refine ⟨_, h, fun vs H1 z => ?_⟩
  obtain ⟨v, rfl, hO⟩ := z
  refine ⟨by show 1 ≤ 1000; decide, fun a na => ?_⟩
  refine ⟨a, v, C, rfl, o, no, upd_same, fun dx ndx nea => ⟨rfl, dx, [(vVal, v)], upd_same, by rw [upd_ne nea, upd_same], ?_, ?_⟩⟩
  · rw [upd_ne nea] at ndx
    exact ndx
  · rw [upd_ne nea] at ndx
    refine hO dx _ ndx (fun b o q => ?_) upd_same
    have nb : b ≠ a := fun z => by rw [z, na] at q; cases q
    have nd : b ≠ dx := fun z => by rw [z, ndx] at q; cases q
    rw [upd_ne nd, del_ne nb, upd_ne nb, upd_ne nd, upd_ne nb]
    exact q
section
variable {X : Cx} {x : Str} {C : Addr} {e : Expr} {ta : TA} {p pos pos2 : Pos}
theorem pmk_z {k : Nat} (T : Xi X.prog X.w X.K X.mg X.base x C) (hr : Room k X.A) (ha : PA X [e] ta) (hg : Gl X x) (hk : 2 ≤ k := by decide) (hdb : (x == ("__debug__" : Str)) = false := by decide)
    (he : starEach (e :: []) X.env = (false, eval e X.env) :: starEach [] X.env := by rfl) (hpl : (backTo pos (starEach [] X.env)).any (·.1) = false := by rfl) :
    PMk X (.Call (.Name x p) [e] [] pos) (fun σ H Q => ta σ H fun vs H1 => ∃ v, vs = [v] ∧ Out C v H1 Q) := by
  obtain ⟨fI, fd, T, F, hb⟩ := T
  have h := pmk_oex (CX := CX0) (p := p) T.o T.iC T.tI F (hr.mono (j := 1 + 1) hk) hb .nil pass0 hg T.g (pa_wide ha) hdb he hpl
  intro pins s σ H Q I q
  exact h pins s σ H Q I (tMk_of T.o T.no q)
theorem ps_raiseZ {k : Nat} {W : WX} (hc : X.calm = true) (T : Xi X.prog X.w X.K X.mg X.base x C) (hr : Room k X.A) (tk : Takes X W) (ha : PA X [e] ta) (hg : Gl X x) (hk : 2 ≤ k := by decide) (hdb : (x == ("__debug__" : Str)) = false := by decide)
    (he : starEach (e :: []) X.env = (false, eval e X.env) :: starEach [] X.env := by rfl) (hpl : (backTo pos (starEach [] X.env)).any (·.1) = false := by rfl) :
    PS X (.Raise (some (.Call (.Name x p) [e] [] pos)) none pos2) (tRz C W ta) := ⟨fun pins s σ H D I h => (ps_raise hc tk (pmk_z T hr ha hg hk hdb he hpl)).run pins s σ H D I h⟩
/-- X(e) as a value: a new exception that no one raised -/
theorem pe_made {t : L2.St → Hp → XK → Prop} (h : PMk X e t) : PE X e (fun σ H Q => t σ H fun cls d H' => ∀ a, H' a = none → Q (.ref a) (upd H' a (exk a cls d))) := by
  refine ⟨fun pins s σ H Q I q => ?_⟩
  refine wpAny_mono (h pins s σ H _ I q) (fun u s1 hh => ?_) fun _ _ x => x
  obtain ⟨a, oe, vs, sI, H', cls, d, rfl, J, k, hne, ha, hz, hd, h1, na, os, ag, r, z⟩ := hh
  have J2 := (J.laidN (t' := s1.toks) k hne na (exk_ok ha hz ⟨_, hd⟩))
  refine ⟨.ref a, _, ?_, rfl, z a na⟩
  exact ⟨J2.ok, os.trans J.os, ag, J2.base, J2.loc, J2.cell, J2.free, J2.freeC, J2.pin, J2.hok, J2.len⟩
/-- e.value of an exception that is known -/
def tXk (K : PySem.W.Frag) (n : Str) (te : TE) : TE := fun σ H Q => te σ H fun y H1 => ∃ (a C dd : Addr) (fs : List (Str × V)) (v : V), y = .ref a ∧ H1 a = some (exk a (.ref C) (some dd)) ∧ ExcC K C ∧ PySem.W.findIn K (.ref C) n = some none ∧ H1 dd = some (.xd fs) ∧ fs.lookup n = some v ∧ Q v H1
theorem pe_xk {te : TE} {n : Str} (he : PE X e te) (hb : attributeBase e n X.env (eval e X.env) = eval e X.env := by rfl) : PE X (.Attribute e n pos) (tXk X.K n te) := by
  refine ⟨fun pins s σ H Q I h => ?_⟩
  refine attr_of hb (thn (he.run pins s σ H _ I h) fun u s1 hh => ?_)
  obtain ⟨y, H1, I1, rx, a, C, dd, fs, v, rfl, ea, T, hno, ed, l, q⟩ := hh
  obtain rfl : u = Value.ref a := rx
  obtain ⟨⟨oe, ha, hz, vs, hd⟩, _, _⟩ := I1.hok a _ ea
  obtain ⟨mA, hns, hr⟩ := (show ObjOk X.prog X.w H1 s1.heap dd (.xd fs) from I1.hok dd _ ed)
  obtain ⟨od, ho, hl⟩ := lookIn_ns hns
  obtain ⟨u, hu, ru⟩ := RelO.some_of (v := v) (o := mA n) (by rw [← l]; exact hr n)
  have J : PySem.W.InstAt s1.heap a oe C (some od) := ⟨ha, hz.1, by unfold PySem.W.notCls; rw [hd] <;> rfl, by rw [hz.2]; exact ho⟩
  exact HandSPX.exc_get I1.kIn J T.hg T.hk T.hs (PySem.W.findObj_own T.hd hno rfl (by rw [hl, hu])) (handed_of ru) ⟨v, H1, I1.tok _, ru, q⟩
/-- isinstance(e, c), e an exception that is known -/
def rIsK (K : PySem.W.Frag) : List V → Hp → VK → Prop := fun xs H Q => ∃ (a D dd : Addr) (fs : List (Str × V)) (c : V) (cv : Value) (b : Bool), xs = [.ref a, c] ∧ H a = some (exk a (.ref D) (some dd)) ∧ H dd = some (.xd fs) ∧ ExcC K D ∧ (∀ u, RelV c u → u = cv) ∧ PySem.W.kitOne K (.ref D) cv = some b ∧ Q (.bl b) H
theorem call_isK : CallR X (.builtin "isinstance") (rIsK X.K) := by
  intro pins s σ H xs us Q I r h
  obtain ⟨a, D, dd, fs, c, cv, b, rfl, ea, ed, C, hcv, e, q⟩ := h
  cases r with
  | cons rx rr =>
    cases rr with
    | cons rt rr =>
      cases rr
      cases rx
      have ec := hcv _ rt
      subst ec
      obtain ⟨⟨oe, ha, hz, vs, hd⟩, _, _⟩ := I.hok a _ ea
      obtain ⟨mA, hns, hr⟩ := (show ObjOk X.prog X.w H s.heap dd (.xd fs) from I.hok dd _ ed)
      obtain ⟨od, ho, hl⟩ := lookIn_ns hns
      have J : PySem.W.InstAt s.heap a oe D (some od) := ⟨ha, hz.1, by unfold PySem.W.notCls; rw [hd] <;> rfl, by rw [hz.2]; exact ho⟩
      have hcl : (PySem.W.clsIn X.K D).isSome = true := by
        have := C.hd
        unfold PySem.W.hasDictIn at this
        cases q2 : PySem.W.clsIn X.K D with
        | none => rw [q2] at this; exact absurd this (by decide)
        | some _ => rfl
      exact PySem.W.kia_one (PySem.W.kitx_exc hcl C.hg C.hk C.hs C.ha C.hn C.ht C.hm) I.kIn J e (fun z => nomatch z) fun tk => ⟨.bl b, H, I.kept (t' := tk) fun _ _ z => z, rfl, q⟩
end

/-! ## defs that may raise -/
section
variable {X : Cx} {CX : CXT} {k : Nat} {f : Addr} {fd : FuncData} {ps ks : List Str} {sp : Sp} {E : L2.St → XK} {x : Str} {p pos : Pos} {e : Expr} {es : List Expr} {kws : List Keyword} {t tk : TA}
theorem ends_callS {pins : List (Addr × Obj)} {σ : L2.St} {H : Hp} {s : Shared} {Q : VK} {r : Result} {s' : Shared} (I : Inv X pins σ H s) (hx : PassesAt CX X σ (E σ)) (hq : CR CX X.stack X.prog X.w H s Q (E σ) r s') :
    match r with | .ok (.ret u) => EP X pins σ Q u s' | .ok _ => False | .error er => X.xe er s' := by
  match r, hq with
  | .error er, hq => exact hx pins H s er s' I hq
  | .ok (.ret u), hq => exact I.after hq
theorem pe_gS (F : FnG X.prog X.w X.K X.mg X.base CX k f fd ps sp) (hG : X.A.guards = some []) (hr : Room k X.A) (hg : Gl X x) (hm : X.mg x = some (.ref f))
    (hk : PySem.W.keepIn X.K (.ref f) = true) (hb : Binds X.K fd ps []) (hx : ∀ σ, PassesAt CX X σ (E σ)) (ha : PA X (e :: es) t)
    (hdb : (x == ("__debug__" : Str)) = false := by decide)
    (he : starEach (e :: es) X.env = (false, eval e X.env) :: starEach es X.env := by rfl)
    (hpl : (backTo pos (starEach es X.env)).any (·.1) = false := by rfl) : PE X (.Call (.Name x p) (e :: es) [] pos) (tCallS sp E t) := by
  constructor
  intro pins s σ H Q I h
  refine wpAny_Call_Name_kw (ld_glob I hg hm ?_ hdb)
  have step := thn (ha.run pos pins s σ H _ I h) (Q' := fun us s1 => X.K.In s1.heap ∧ wpAny (model X.prog X.w) X.A (call (.ref f) us) (EP X pins σ Q) X.xe s1) fun us s1 hh => by
    obtain ⟨vs, H1, I1, r, q⟩ := hh
    have el : us.length = ps.length := (r.length).symm.trans (F.len _ _ _ _ q)
    have b := hb s1 us I1.kIn (by rw [List.append_nil]; exact el)
    rw [List.append_nil] at b
    refine ⟨I1.kIn, wpAny_call (codeAny_mono (F.run X.A X.stack s1 H1 ⟨us, []⟩ us vs Q (E σ) hG hr I1.env0 b r q) fun r s' q => ?_)⟩
    have q2 := ends_callS I1 (hx σ) q
    revert q2
    match r with
    | .error er => exact id
    | .ok (.ret u) => exact id
    | .ok .next => exact False.elim
    | .ok .brk => exact False.elim
    | .ok .cont => exact False.elim
  exact PySem.W.callWith_K (h₀ := X.base) I.ok.mod.kin hk step he hpl
def tKwS (m : Nat) (sp : Sp) (gV : List V → List V) (E : L2.St → XK) (tk : TA) : TE := fun σ H Q => tk σ H fun zs H2 => zs.length = m ∧ sp (gV zs) H2 Q (E σ)
theorem pe_gkwS {g1 : List Value → List Value} {gV1 : List V → List V} (F : FnG X.prog X.w X.K X.mg X.base CX k f fd ps sp) (hG : X.A.guards = some []) (hr : Room k X.A) (hg : Gl X x) (hm : X.mg x = some (.ref f))
    (hk : PySem.W.keepIn X.K (.ref f) = true) (hb : KwB X.K fd ps ks g1 gV1) (hx : ∀ σ, PassesAt CX X σ (E σ)) (hkw : PK X kws tk)
    (hall : (backToKw pos (keywordEach kws X.env)).all (·.1.isSome) = true := by rfl)
    (hks : (backToKw pos (keywordEach kws X.env)).filterMap (·.1) = ks := by rfl)
    (hdb : (x == ("__debug__" : Str)) = false := by decide)
    (hpl : ((backTo pos (starEach [] X.env)).any (·.1) || (backToKw pos (keywordEach kws X.env)).any (·.1.isNone)) = false := by rfl) :
    PE X (.Call (.Name x p) [] kws pos) (tKwS ks.length sp gV1 E tk) := by
  constructor
  intro pins s σ H Q I h
  refine wpAny_Call_Name_kw (ld_glob I hg hm ?_ hdb)
  refine PySem.W.callWith_KW0 (h₀ := X.base) I.ok.mod.kin hk hall (thn (hkw.run pos pins s σ H _ I h) fun ws s2 hh => ?_) hpl
  obtain ⟨zs, H2, I2, rz, l2, q2⟩ := hh
  refine ⟨I2.kIn, ?_⟩
  rw [hks]
  have lw : ws.length = ks.length := rz.length.symm.trans l2
  refine wpAny_call (codeAny_mono (F.run X.A X.stack s2 H2 ⟨[], ks.zip ws⟩ (g1 ws) (gV1 zs) Q (E σ) hG hr I2.env0 (hb.to s2 ws I2.kIn lw) (hb.rel l2 rz) q2) fun r s' q => ?_)
  have q3 := ends_callS I2 (hx σ) q
  revert q3
  match r with
  | .error er => exact id
  | .ok (.ret u) => exact id
  | .ok .next => exact False.elim
  | .ok .brk => exact False.elim
  | .ok .cont => exact False.elim
end
def ClX (P : Program) (w : World) (K : PySem.W.Frag) (mg : Str → Option Value) (base : Heap) (k : Nat) (x : Str) (ps : List Str) (sp : Sp) : Prop :=
  ∃ (f : Addr) (fd : FuncData), FnG P w K mg base (L2.CX P w) k f fd ps sp ∧ mg x = some (.ref f) ∧ PySem.W.keepIn K (.ref f) = true ∧ Binds K fd ps []
def CkX (P : Program) (w : World) (K : PySem.W.Frag) (mg : Str → Option Value) (base : Heap) (k : Nat) (x : Str) (ks : List Str) (gV : List V → List V) (sp : Sp) : Prop :=
  ∃ (f : Addr) (fd : FuncData) (ps : List Str) (g : List Value → List Value), FnG P w K mg base (L2.CX P w) k f fd ps sp ∧ mg x = some (.ref f) ∧ PySem.W.keepIn K (.ref f) = true ∧ KwB K fd ps ks g gV
section
variable {P : Program} {w : World} {K : PySem.W.Frag} {mg : Str → Option Value} {base : Heap}
theorem ClX.mk {k : Nat} {x : Str} {st : Stmt} {ps : List Str} {sp : Sp} {f : Addr} {fd : FuncData} (D : Df K mg x st ps f fd) (F : FnG P w K mg base (L2.CX P w) k f fd ps sp) : ClX P w K mg base k x ps sp :=
  ⟨f, fd, F, D.g, D.F.kp, D.b⟩
theorem CkX.mk {k : Nat} {x : Str} {st : Stmt} {ps ks : List Str} {sp : Sp} {f : Addr} {fd : FuncData} {gV : List V → List V} (D : Df K mg x st ps f fd) (F : FnG P w K mg base (L2.CX P w) k f fd ps sp) (g : List Value → List Value)
    (h : ∀ (kV doc pm : Value) (an : Option Addr) (cdv ct : Value) (ws : List Value), ws.length = ks.length → bindArgs (PySem.W.fnOf x x (defArgs st) (defBody st) (defScope st) .none kV doc pm an cdv ct) ⟨[], ks.zip ws⟩ = pure (ps.zip (g ws)))
    (rel : ∀ {zs : List V} {ws : List Value}, zs.length = ks.length → Vals zs ws → Vals (gV zs) (g ws)) : CkX P w K mg base k x ks gV sp :=
  ⟨f, fd, ps, g, F, D.g, D.F.kp, fun_kw D.F h rel⟩
/-- a body that may let an exception out; nothing is handled -/
theorem df_okX {x : Str} {st : Stmt} {f : Addr} {fd : FuncData} {N ps : List Str} {k : Nat} {sp : Sp} (D : Df K mg x st ps f fd) (S : FnScope N ps (defScope st)) (len : ∀ vs H Q E, sp vs H Q E → vs.length = ps.length)
    (hbody : ∀ (cdv : Value) (A : Around) (outer : List Env) (s : Shared) (H : Hp) (vs : List V) (Q : VK) (E : XK), A.guards = some [] → Room k (A.deeper (envOfC x (defScope st) s.heap.objs.size f cdv)) →
      Takes (cxOf (L2.CX P w) P w K mg base N x (defScope st) f cdv A outer s H E) (fun cls d _ H' => E cls d H') → sp vs H Q E →
      ∃ t, PSs (cxOf (L2.CX P w) P w K mg base N x (defScope st) f cdv A outer s H E) (defBody st) t ∧ t { nx := fun _ H' => Q .non H', rt := Q } (start N vs) H) :
    FnG P w K mg base (L2.CX P w) (k + 1) f fd ps sp :=
  fun_okG D.F S len fun cdv A outer s H vs Q E hG hr hs => hbody cdv A outer s H vs Q E hG hr (takes_of rfl rfl rfl rfl) hs
end
section
variable {X : Cx} {j k : Nat} {ps ks : List Str} {sp : Sp} {x : Str} {p pos : Pos} {e : Expr} {es : List Expr} {kws : List Keyword} {t tk : TA} {W : WX}
theorem pe_clX (C : ClX X.prog X.w X.K X.mg X.base j x ps sp) (hG : X.A.guards = some []) (hr : Room k X.A) (tk : Takes X W) (hg : Gl X x) (ha : PA X (e :: es) t) (hjk : j ≤ k := by decide)
    (hdb : (x == ("__debug__" : Str)) = false := by decide)
    (he : starEach (e :: es) X.env = (false, eval e X.env) :: starEach es X.env := by rfl)
    (hpl : (backTo pos (starEach es X.env)).any (·.1) = false := by rfl) : PE X (.Call (.Name x p) (e :: es) [] pos) (tCallS sp (WE W) t) := by
  obtain ⟨f, fd, F, g, kp, b⟩ := C
  exact pe_gS F hG (hr.mono hjk) hg g kp b (fun σ => passAt tk σ) ha hdb he hpl
theorem pe_ckX {gV : List V → List V} (C : CkX X.prog X.w X.K X.mg X.base j x ks gV sp) (hG : X.A.guards = some []) (hr : Room k X.A) (tk0 : Takes X W) (hg : Gl X x) (hkw : PK X kws tk) (hjk : j ≤ k := by decide)
    (hall : (backToKw pos (keywordEach kws X.env)).all (·.1.isSome) = true := by rfl)
    (hks : (backToKw pos (keywordEach kws X.env)).filterMap (·.1) = ks := by rfl)
    (hdb : (x == ("__debug__" : Str)) = false := by decide)
    (hpl : ((backTo pos (starEach [] X.env)).any (·.1) || (backToKw pos (keywordEach kws X.env)).any (·.1.isNone)) = false := by rfl) :
    PE X (.Call (.Name x p) [] kws pos) (tKwS ks.length sp gV (WE W) tk) := by
  obtain ⟨f, fd, ps, g, F, gm, kp, b⟩ := C
  exact pe_gkwS F hG (hr.mono hjk) hg gm kp b (fun σ => passAt tk0 σ) hkw hall hks hdb hpl
end
/-- a def that gives something, or raises as o says -/
def PX (pre : List V → Hp → Option (Addr × V) → Prop) : Sp := fun vs H Q E => ∃ o, pre vs H o ∧ (o = none → ∀ v H', Ex H H' → Q v H') ∧ ∀ C v, o = some (C, v) → Out C v H E
theorem px_len {pre : List V → Hp → Option (Addr × V) → Prop} {n : Nat} (h : ∀ vs H o, pre vs H o → vs.length = n) : ∀ vs H Q E, PX pre vs H Q E → vs.length = n := fun vs H Q E q => by
  obtain ⟨o, a, _⟩ := q
  exact h _ _ _ a
section
variable {pre : List V → Hp → Option (Addr × V) → Prop} {o : Option (Addr × V)} {σ : L2.St} {H : Hp} {vs : List V} {ta : TA} {tz : TS} {D : Ends} {W : WX}
theorem q_dropX (h : EvA ta σ H vs) (hp : ∀ H1, Ex H H1 → pre vs H1 o) (h0 : o = none → ∀ H1, Ex H H1 → tz D σ H1) (h1 : ∀ C v, o = some (C, v) → ∀ H1, Ex H H1 → Out C v H1 (fun c d H' => W c d σ H')) : tSeq (tDrop (tCallS (PX pre) (WE W) ta)) tz D σ H :=
  h H (Ex.refl H) _ fun H1 e1 => ⟨o, hp H1 e1, fun z v H' e' => h0 z H' (e1.trans e'), fun C v z => h1 C v z H1 e1⟩
theorem s_dropX (h : EvA ta σ H vs) (hp : ∀ H1, Ex H H1 → pre vs H1 o) (h0 : o = none → ∀ H1, Ex H H1 → D.nx σ H1) (h1 : ∀ C v, o = some (C, v) → ∀ H1, Ex H H1 → Out C v H1 (fun c d H' => W c d σ H')) : tDrop (tCallS (PX pre) (WE W) ta) D σ H :=
  h H (Ex.refl H) _ fun H1 e1 => ⟨o, hp H1 e1, fun z v H' e' => h0 z H' (e1.trans e'), fun C v z => h1 C v z H1 e1⟩
theorem s_dropKX {gV : List V → List V} {m : Nat} (h : EvA ta σ H vs) (hl : vs.length = m) (hp : ∀ H1, Ex H H1 → pre (gV vs) H1 o) (h0 : o = none → ∀ H1, Ex H H1 → D.nx σ H1) (h1 : ∀ C v, o = some (C, v) → ∀ H1, Ex H H1 → Out C v H1 (fun c d H' => W c d σ H')) : tDrop (tKwS m (PX pre) gV (WE W) ta) D σ H :=
  h H (Ex.refl H) _ fun H1 e1 => ⟨hl, o, hp H1 e1, fun z v H' e' => h0 z H' (e1.trans e'), fun C v z => h1 C v z H1 e1⟩
theorem s_rz {C : Addr} {x : V} {te : TE} (h : Ev te σ H x) (k : ∀ H1, Ex H H1 → Out C x H1 (fun c d H' => W c d σ H')) : tRz C W (tCons te tNil) D σ H := h H (Ex.refl H) _ fun H1 e1 => ⟨x, rfl, k H1 e1⟩
end
/-! ## models that may be wrong -/
def AtX (K : PySem.W.Frag) (H : Hp) (p : Addr) (ns : List Int) (pl : Str) : Prop := ∃ q, SqT K H p [.ref q, .str pl] ∧ SqT K H q (ns.map V.int)
theorem AtX.ex {K : PySem.W.Frag} {H H' : Hp} {p : Addr} {ns : List Int} {pl : Str} (e : Ex H H') (h : AtX K H p ns pl) : AtX K H' p ns pl := by
  obtain ⟨q, a, b⟩ := h
  exact ⟨q, ex_t e a, ex_t e b⟩
def firstBad (C : Addr) : Int → Nat → List Int → Option (Addr × V)
  | _, _, [] => none
  | l, i, n :: r => if n < l ∨ 128 < n then some (C, .int (i : Nat)) else firstBad C n (i + 1) r
def chkW (C : Addr) (ns : List Int) : Option (Addr × V) := if ns.length = 5 then firstBad C 2 0 ns else some (C, .non)
def plOk (pl : Str) : Bool := inV (.str pl) vPLAIN
def chkM (C : Addr) (ns : List Int) (pl : Str) : Option (Addr × V) := match chkW C ns with
  | none => if plOk pl then none else some (C, .non)
  | some z => some z
def kdOk (x : Str) : Bool := inV (.str x) vKINDS
def chkK (C : Addr) (x : Str) : Option (Addr × V) := if kdOk x then none else some (C, .str x)
def preCW (K : PySem.W.Frag) (C : Addr) : List V → Hp → Option (Addr × V) → Prop := fun vs H o => ∃ p ns, vs = [.ref p] ∧ SqT K H p (ns.map V.int) ∧ o = chkW C ns
def preCM (K : PySem.W.Frag) (C : Addr) : List V → Hp → Option (Addr × V) → Prop := fun vs H o => ∃ p ns pl, vs = [.ref p] ∧ AtX K H p ns pl ∧ o = chkM C ns pl
def preCK (C : Addr) : List V → Hp → Option (Addr × V) → Prop := fun vs H o => ∃ x, vs = [.str x] ∧ o = chkK C x
def andThen (a b : Option (Addr × V)) : Option (Addr × V) := match a with | none => b | some z => some z
def preMX (K : PySem.W.Frag) (C D : Addr) : List V → Hp → Option (Addr × V) → Prop := fun vs H o => ∃ p ns pl x, vs = [.ref p, .str x] ∧ AtX K H p ns pl ∧ o = andThen (chkM C ns pl) (chkK D x)
def preMXI (K : PySem.W.Frag) (C D : Addr) : List V → Hp → Option (Addr × V) → Prop := fun vs H o => ∃ p ns pl x i, vs = [.ref p, .str x, .int i] ∧ AtX K H p ns pl ∧ o = andThen (chkM C ns pl) (chkK D x)
def preMXX (K : PySem.W.Frag) (C D : Addr) : List V → Hp → Option (Addr × V) → Prop := fun vs H o => ∃ p ns pl x y, vs = [.ref p, .str x, .str y] ∧ AtX K H p ns pl ∧ o = andThen (chkM C ns pl) (andThen (chkK D x) (chkK D y))
theorem firstBad_drop {C : Addr} : ∀ {ns : List Int} {l z : Int} {j i : Nat}, ns[i]? = some z → firstBad C l j (ns.drop i) = if z < l ∨ 128 < z then some (C, .int (j : Nat)) else firstBad C z (j + 1) (ns.drop (i + 1)) := by
  intro ns l z j i h
  obtain ⟨hi, e⟩ := List.getElem?_eq_some_iff.mp h
  rw [List.drop_eq_getElem_cons hi, e]
  rfl
theorem kdOk_ex {x : Str} (h : kdOk x = true) : ∃ k : Kd, k.s = x := by
  unfold kdOk inV at h
  rw [List.any_eq_true] at h
  obtain ⟨y, hy, e⟩ := h
  obtain ⟨m, hm⟩ := List.mem_iff_getElem?.mp hy
  obtain ⟨k, _, rfl⟩ := kd_at hm
  refine ⟨k, ?_⟩
  have : decide (k.s = x) = true := by
    first
      | exact e
      | simpa [eqV] using e
  exact of_decide_eq_true this
theorem chkM_ok {C : Addr} {ns : List Int} {pl : Str} (h : chkM C ns pl = none) : ∃ m : Md, m.Ok ∧ ns = m.ns ∧ pl = plS m.u := by
  unfold chkM at h
  cases hw : chkW C ns with
  | some z => rw [hw] at h; exact nomatch h
  | none =>
    rw [hw] at h
    have h : (if plOk pl then none else some (C, V.non)) = none := h
    have hp : plOk pl = true := by
      cases q : plOk pl with
      | true => rfl
      | false => rw [q] at h; exact nomatch h
    unfold chkW at hw
    split at hw
    · rename_i hl
      match ns, hl with
      | [a, b, c, d, e], _ =>
        have key : ∀ (l : Int) (i : Nat) (z : Int) (r : List Int), firstBad C l i (z :: r) = none → l ≤ z ∧ z ≤ 128 ∧ firstBad C z (i + 1) r = none := by
          intro l i z r q
          unfold firstBad at q
          split at q
          · exact nomatch q
          · exact ⟨by omega, by omega, q⟩
        obtain ⟨a1, a2, hw⟩ := key _ _ _ _ hw
        obtain ⟨b1, b2, hw⟩ := key _ _ _ _ hw
        obtain ⟨c1, c2, hw⟩ := key _ _ _ _ hw
        obtain ⟨d1, d2, hw⟩ := key _ _ _ _ hw
        obtain ⟨e1, e2, hw⟩ := key _ _ _ _ hw
        obtain ⟨u, hu⟩ : ∃ u : Bool, pl = plS u := by
          unfold plOk inV vPLAIN at hp
          simp only [List.any_cons, List.any_nil, Bool.or_false, Bool.or_eq_true] at hp
          rcases hp with hp | hp
          · exact ⟨false, ((eq_of_beq (show ("s" == pl) = true from hp))).symm⟩
          · exact ⟨true, ((eq_of_beq (show ("u" == pl) = true from hp))).symm⟩
        refine ⟨⟨a.toNat, b.toNat, c.toNat, d.toNat, e.toNat, u⟩, ⟨?_, ?_, ?_, ?_, ?_, ?_⟩, ?_, hu⟩
        · simp only []; omega
        · simp only []; omega
        · simp only []; omega
        · simp only []; omega
        · simp only []; omega
        · simp only []; omega
        · show [a, b, c, d, e] = [((a.toNat : Nat) : Int), ((b.toNat : Nat) : Int), ((c.toNat : Nat) : Int), ((d.toNat : Nat) : Int), ((e.toNat : Nat) : Int)]
          rw [Int.toNat_of_nonneg (by omega), Int.toNat_of_nonneg (by omega), Int.toNat_of_nonneg (by omega), Int.toNat_of_nonneg (by omega), Int.toNat_of_nonneg (by omega)]
    · exact nomatch hw
theorem AtX.m {K : PySem.W.Frag} {H : Hp} {p : Addr} {ns : List Int} {pl : Str} {C : Addr} (h : AtX K H p ns pl) (o : chkM C ns pl = none) : ∃ m : Md, m.Ok ∧ AtM K H p m := by
  obtain ⟨m, mo, rfl, rfl⟩ := chkM_ok o
  exact ⟨m, mo, h⟩
theorem chkK_ok {C : Addr} {x : Str} (o : chkK C x = none) : ∃ k : Kd, x = k.s := by
  unfold chkK at o
  split at o
  · rename_i h
    obtain ⟨k, e⟩ := kdOk_ex h
    exact ⟨k, e.symm⟩
  · exact nomatch o
theorem if_true_of_ {c : Bool} {A B : Prop} (hc : c = true) (h : A) : if c = true then A else B := by
  rw [if_pos hc]
  exact h
theorem if_false_of_ {c : Bool} {A B : Prop} (hc : c = false) (h : B) : if c = true then A else B := by
  rw [hc, if_neg Bool.false_ne_true]
  exact h
theorem ev_non_ {σ : L2.St} {H : Hp} : Ev (tC .non) σ H .non := ev_c
end Cf

namespace Cf
open PySem PySem.Spec PyProof.Rows L2 Evl
/-! ## which of the nine classes an exception is of -/
/-- the class at C is of these -/
structure IsF (K : PySem.W.Frag) (C c0 c1 c2 c3 c4 c5 c6 c7 c8 : Addr) (b0 b1 b2 b3 b4 b5 b6 b7 b8 : Bool) : Prop where
  e : ExcC K C
  no : PySem.W.findIn K (.ref C) vVal = some none
  k0 : PySem.W.kitOne K (.ref C) (.ref c0) = some b0
  k1 : PySem.W.kitOne K (.ref C) (.ref c1) = some b1
  k2 : PySem.W.kitOne K (.ref C) (.ref c2) = some b2
  k3 : PySem.W.kitOne K (.ref C) (.ref c3) = some b3
  k4 : PySem.W.kitOne K (.ref C) (.ref c4) = some b4
  k5 : PySem.W.kitOne K (.ref C) (.ref c5) = some b5
  k6 : PySem.W.kitOne K (.ref C) (.ref c6) = some b6
  k7 : PySem.W.kitOne K (.ref C) (.ref c7) = some b7
  k8 : PySem.W.kitOne K (.ref C) (.ref c8) = some b8
  kv : PySem.W.kitOne K (.ref C) (.type "ValueError") = some true
structure Er9 (K : PySem.W.Frag) (mg : Str → Option Value) (c0 c1 c2 c3 c4 c5 c6 c7 c8 : Addr) : Prop where
  g0 : mg "InvalidModel" = some (.ref c0)
  g1 : mg "InvalidType" = some (.ref c1)
  g2 : mg "InvalidVariables" = some (.ref c2)
  g3 : mg "InvalidExpression" = some (.ref c3)
  g4 : mg "InvalidValues" = some (.ref c4)
  g5 : mg "InvalidNumber" = some (.ref c5)
  g6 : mg "NotAdmitted" = some (.ref c6)
  g7 : mg "NothingToUndo" = some (.ref c7)
  g8 : mg "Unreadable" = some (.ref c8)
  m : IsF K c0 c0 c1 c2 c3 c4 c5 c6 c7 c8 true false false false false false false false false
  k : IsF K c1 c0 c1 c2 c3 c4 c5 c6 c7 c8 false true false false false false false false false
/-- an exception of the class C with v stands at a -/
def ExAt (H : Hp) (a C : Addr) (v : V) : Prop := ∃ dd, H a = some (exk a (.ref C) (some dd)) ∧ H dd = some (.xd [(vVal, v)])
theorem ExAt.ex {H H' : Hp} {a C : Addr} {v : V} (h : ExAt H a C v) (e : Ex H H') : ExAt H' a C v := by
  obtain ⟨dd, p, q⟩ := h
  exact ⟨dd, e _ _ p, e _ _ q⟩
theorem ExAt.bu {H H' : Hp} {a C l : Addr} {v : V} {xs : List V} (h : ExAt H a C v) (hl : H l = some (.lst xs)) (e : Bu l H H') : ExAt H' a C v := by
  obtain ⟨dd, p, q⟩ := h
  refine ⟨dd, e _ _ (ne_of p hl ?_) p, e _ _ (ne_of q hl ?_) q⟩
  · intro z
    have z' : HO.ext _ = HO.lst _ := z
    cases z'
  · intro z
    cases z
section
variable {K : PySem.W.Frag} {σ : L2.St} {H : Hp} {ta : TE} {a C c : Addr} {v : V} {b : Bool}
theorem ev_isK (ha : Ev ta σ H (.ref a)) (h : ExAt H a C v) (e : ExcC K C) (k : PySem.W.kitOne K (.ref C) (.ref c) = some b) : Ev (tCB (rIsK K) (tCons ta (tCons (tC (.ref c)) tNil))) σ H (.bl b) := ev_cb (ea_cons ha (ea_cons ev_c ea_nil)) fun H1 e1 Q1 q1 => by
  obtain ⟨dd, p, q⟩ := h.ex e1
  exact ⟨a, C, dd, _, .ref c, .ref c, b, rfl, p, q, e, fun u r => r, k, q1 H1 (Ex.refl H1)⟩
theorem ev_isKT {n : String} (ha : Ev ta σ H (.ref a)) (h : ExAt H a C v) (e : ExcC K C) (k : PySem.W.kitOne K (.ref C) (.type n) = some b) : Ev (tCB (rIsK K) (tCons ta (tCons (tC (.ty n)) tNil))) σ H (.bl b) := ev_cb (ea_cons ha (ea_cons ev_c ea_nil)) fun H1 e1 Q1 q1 => by
  obtain ⟨dd, p, q⟩ := h.ex e1
  exact ⟨a, C, dd, _, .ty n, .type n, b, rfl, p, q, e, fun u r => r, k, q1 H1 (Ex.refl H1)⟩
theorem ev_xk (ha : Ev ta σ H (.ref a)) (h : ExAt H a C v) (e : ExcC K C) (no : PySem.W.findIn K (.ref C) vVal = some none) : Ev (tXk K vVal ta) σ H v := fun H1 e1 Q q => ha H1 e1 _ fun H2 e2 => by
  obtain ⟨dd, p, z⟩ := h.ex (e1.trans e2)
  exact ⟨a, C, dd, _, v, rfl, p, e, no, z, by simp [List.lookup], q H2 e2⟩
end
/-- the list at l: pairs (name, bool), each a list -/
def Kin (H : Hp) (l : Addr) (done : List (Str × Bool)) : Prop := ∃ ps : List Addr, H l = some (.lst (ps.map V.ref)) ∧ ps.length = done.length ∧ ∀ (j : Nat) (nm : Str) (b : Bool), done[j]? = some (nm, b) → ∃ p, ps[j]? = some p ∧ p ≠ l ∧ H p = some (.lst [.str nm, .bl b])
theorem Kin.ex {H H' : Hp} {l : Addr} {done : List (Str × Bool)} (h : Kin H l done) (e : Ex H H') : Kin H' l done := by
  obtain ⟨ps, a, b, c⟩ := h
  refine ⟨ps, e _ _ a, b, fun j nm bb q => ?_⟩
  obtain ⟨p, p1, p2, p3⟩ := c j nm bb q
  exact ⟨p, p1, p2, e _ _ p3⟩
theorem q_kin {K : PySem.W.Frag} {σ : L2.St} {H : Hp} {l : Addr} {done : List (Str × Bool)} {nm : Str} {b : Bool} {i : Nat} {te : TE} {tz : TS} {D : Ends} (h : Kin H l done) (hi : σ[i]? = some (some (.ref l))) (hd : done.length < 100000) (he : EvL te σ H [.str nm, .bl b])
    (k : ∀ H', Bu l H H' → Kin H' l (done ++ [(nm, b)]) → tz D σ H') : tSeq (tDrop (tBM K "list" rAppend (tVar i) (tCons te tNil))) tz D σ H := by
  obtain ⟨ps, h1, h2, h3⟩ := h
  refine q_appL h1 (ev_var hi) he (by rw [List.length_map]; omega) fun p H1 np e1 hp => ?_
  have hpl : p ≠ l := fun z => by rw [z, h1] at np; cases np
  have bu : Bu l H (upd H1 l (.lst (ps.map V.ref ++ [.ref p]))) := fun c o nc q => by rw [upd_ne nc]; exact e1 _ _ q
  refine k _ bu ⟨ps ++ [p], by rw [upd_same, List.map_append]; rfl, by rw [List.length_append, List.length_append, h2]; rfl, fun j nm2 b2 q => ?_⟩
  by_cases hj : j < done.length
  · rw [List.getElem?_append_left hj] at q
    obtain ⟨p2, q1, q2, q3⟩ := h3 j nm2 b2 q
    exact ⟨p2, by rw [List.getElem?_append_left (by omega)]; exact q1, q2, bu _ _ q2 q3⟩
  · rw [List.getElem?_append_right (by omega)] at q
    have hj2 : j - done.length = 0 := by
      have := (List.getElem?_eq_some_iff.mp q).1
      simp at this
      omega
    rw [hj2] at q
    have q : (nm, b) = (nm2, b2) := Option.some.inj q
    cases q
    exact ⟨p, by rw [List.getElem?_append_right (by omega), h2, hj2]; rfl, hpl, by rw [upd_ne hpl]; exact hp⟩
/-- _law_kind_of -/
def spKO (K : PySem.W.Frag) (cM cK : Addr) : Sp := fun vs H Q _ => ∃ a C v nm, vs = [.ref a] ∧ ((C = cM ∧ nm = ("model" : Str)) ∨ (C = cK ∧ nm = ("kind" : Str))) ∧ ExAt H a C v ∧ ∀ p H', H p = none → Ex H H' → H' p = some (.lst [.str nm, v]) → Q (.ref p) H'
end Cf
namespace Cf
open PySem PySem.Spec PyProof.Rows L2 Evl
/-! ## what is told -/
def tm (ns : List Int) (pl : Str) : Option V := (chkM 0 ns pl).map (·.2)
def tkd (x : Str) : Option V := if kdOk x then none else some (.str x)
theorem firstBad_C (C : Addr) : ∀ (ns : List Int) (l : Int) (i : Nat), firstBad C l i ns = (firstBad 0 l i ns).map fun z => (C, z.2)
  | [], _, _ => rfl
  | n :: r, l, i => by
    unfold firstBad
    split
    · rfl
    · exact firstBad_C C r n (i + 1)
theorem chkW_C (C : Addr) (ns : List Int) : chkW C ns = (chkW 0 ns).map fun z => (C, z.2) := by
  unfold chkW
  by_cases h : ns.length = 5
  · rw [if_pos h, if_pos h, firstBad_C]
  · rw [if_neg h, if_neg h]
    rfl
theorem chkM_tm (C : Addr) (ns : List Int) (pl : Str) : chkM C ns pl = (tm ns pl).map fun v => (C, v) := by
  unfold tm chkM
  rw [chkW_C]
  cases chkW 0 ns with
  | none => by_cases p : plOk pl <;> simp [p]
  | some z => rfl
theorem chkK_tk (C : Addr) (x : Str) : chkK C x = (tkd x).map fun v => (C, v) := by
  unfold chkK tkd
  split <;> rfl
/-- what the law is told of a call: none, or the name and the value of the error -/
def told1 (ns : List Int) (pl x : Str) : Option (Bool × V) := match tm ns pl with
  | some v => some (true, v)
  | none => (tkd x).map fun v => (false, v)
def told2 (ns : List Int) (pl x y : Str) : Option (Bool × V) := match told1 ns pl x with
  | some z => some z
  | none => (tkd y).map fun v => (false, v)
def nmOf (b : Bool) : Str := if b then "model" else "kind"
def cOf (cM cK : Addr) (b : Bool) : Addr := if b then cM else cK
theorem told1_eq (cM cK : Addr) (ns : List Int) (pl x : Str) : andThen (chkM cM ns pl) (chkK cK x) = (told1 ns pl x).map fun z => (cOf cM cK z.1, z.2) := by
  rw [chkM_tm, chkK_tk]
  unfold told1
  cases tm ns pl with
  | some v => rfl
  | none => cases tkd x <;> rfl
theorem told2_eq (cM cK : Addr) (ns : List Int) (pl x y : Str) : andThen (chkM cM ns pl) (andThen (chkK cK x) (chkK cK y)) = (told2 ns pl x y).map fun z => (cOf cM cK z.1, z.2) := by
  rw [chkM_tm, chkK_tk, chkK_tk]
  unfold told2 told1
  cases tm ns pl with
  | some v => rfl
  | none => cases tkd x <;> cases tkd y <;> rfl
def toldP (pick : Int) (ns : List Int) (pl x y : Str) : Option (Bool × V) := if pick = 5 then told2 ns pl x y else told1 ns pl x
def spTold (K : PySem.W.Frag) : Sp := fun vs H Q _ => ∃ pick p ns pl x y, vs = [.int pick, .ref p, .str x, .str y] ∧ 0 ≤ pick ∧ pick ≤ 5 ∧ AtX K H p ns pl ∧
  (toldP pick ns pl x y = none → ∀ H', Ex H H' → Q .non H') ∧ ∀ b v, toldP pick ns pl x y = some (b, v) → ∀ q H', H q = none → Ex H H' → H' q = some (.lst [.str (nmOf b), v]) → Q (.ref q) H'
end Cf

namespace Cf
open PySem PySem.Spec PyProof.Rows L2 Evl
section
variable {K : PySem.W.Frag} {σ : L2.St} {H : Hp} {ta tb te : TE} {t : TT} {tr : TA}
/-- a comprehension over enumerate(list) -/
theorem el_lcEn {a : Addr} {xs : List V} {j1 j2 : Nat} {vs : List Nat} (f : Nat → Bool) (v : Nat → V) (h : EvA tr σ H [.ref a]) (hx : SqL K H a xs) (hz : xs.length ≤ 40000) (hw : ∀ x y, wipe (((wipe σ vs).set j1 (some x)).set j2 (some y)) vs = wipe σ vs)
    (ht : ∀ (i : Nat) (x : V) H1, Ex H H1 → xs[i]? = some x → EvT t (((wipe σ vs).set j1 (some (.int (i : Nat)))).set j2 (some x)) H1 (f i)) (he : ∀ (i : Nat) (x : V) H1, Ex H H1 → xs[i]? = some x → f i = true → Ev te (((wipe σ vs).set j1 (some (.int (i : Nat)))).set j2 (some x)) H1 (v i)) :
    EvL (tLc (iEnum K tr) (gTup K 2 (gCons (gName j1) (gCons (gName j2) gNil))) t te vs) σ H (given xs.length f v) := fun H0 e Q q => h H0 e _ fun H1 e1 => ⟨a, xs, rfl, ex_l (e.trans e1) hx, fun Dl hD =>
  lc_it walk_enum (Cw H1 f v Dl) ⟨hD, Ex.new hD, upd_same⟩ (fun i H' _ p => ex_l ((e.trans e1).trans p.2.1) hx) (fun i x H' H'' hi p y => by
    obtain ⟨T, a0, b0, rfl, hT, rfl, ea, eb⟩ := y
    cases (Option.some.inj ea)
    obtain ⟨p1, p2, p3⟩ := p
    exact ⟨T, _, rfl, st_of upd_same, rfl, _, _, rfl, _, _, rfl, rfl, hw _ _, cw_turn ⟨p1, p2.trans (Ex.new hT), by rw [upd_ne (ne_of_none p3 hT)]; exact p3⟩ (by omega) (ht i b0 H1 (e.trans e1) eb) (fun hf => he i b0 H1 (e.trans e1) eb hf)⟩)
    (fun H' p => q Dl H' (fresh_back e1 p.1) (e1.trans p.2.1) p.2.2)⟩
theorem el_cat {xs ys : List V} (ha : EvL ta σ H xs) (hb : EvL tb σ H ys) (hl : xs.length + ys.length ≤ 100000) : EvL (tOp rCat ta tb) σ H (xs ++ ys) := fun H1 e Q q =>
  ha H1 e _ fun p H2 np e2 h2 => hb H2 (e.trans e2) _ fun p2 H3 np2 e3 h3 => ⟨p, p2, xs, ys, rfl, rfl, e3 _ _ h2, h3, sz_of hl, fun l nl => q l _ (fresh_back (e2.trans e3) nl) ((e2.trans e3).trans (Ex.new nl)) upd_same⟩
theorem el_catV {a : Addr} {xs ys : List V} (ha : Ev ta σ H (.ref a)) (h : H a = some (.lst xs)) (hb : EvL tb σ H ys) (hl : xs.length + ys.length ≤ 100000) : EvL (tOp rCat ta tb) σ H (xs ++ ys) := fun H1 e Q q =>
  ha H1 e _ fun H2 e2 => hb H2 (e.trans e2) _ fun p2 H3 np2 e3 h3 => ⟨a, p2, xs, ys, rfl, rfl, e3 _ _ (e2 _ _ (e _ _ h)), h3, sz_of hl, fun l nl => q l _ (fresh_back (e2.trans e3) nl) ((e2.trans e3).trans (Ex.new nl)) upd_same⟩
theorem el_rep {x : V} {k : Nat} (ha : EvL ta σ H [x]) (hb : Ev tb σ H (.int (k : Nat))) (hk : k ≤ 1000) : EvL (tOp rRep ta tb) σ H (List.replicate k x) := fun H1 e Q q =>
  ha H1 e _ fun p H2 np e2 h2 => hb H2 (e.trans e2) _ fun H3 e3 => ⟨p, (k : Int), [x], rfl, rfl, e3 _ _ h2, by omega, by omega, by rw [Int.toNat_natCast]; simp only [List.length_cons, List.length_nil]; exact sz_of (by omega), fun l nl => by
    have er : (List.replicate ((k : Int).toNat) [x]).flatten = List.replicate k x := by
      rw [Int.toNat_natCast]
      clear hk hb q
      induction k with
      | zero => rfl
      | succ k ih => rw [List.replicate_succ, List.flatten_cons, ih, List.replicate_succ]; rfl
    rw [er]
    exact q l _ (fresh_back (e2.trans e3) nl) ((e2.trans e3).trans (Ex.new nl)) upd_same⟩
/-- one of several written numbers, drawn -/
theorem pickA {r : Addr} {zs : List Int} {l n j : Nat} {E : XK} {Q : VK} (h : EvA tr σ H (zs.map V.int)) (hl : zs.length = l) (l0 : 0 < l) (l1 : l ≤ 100) (g : Rng H r n) (hn : n < 2 ^ 60) (hj : σ[j]? = some (some (.ref r))) (k : ∀ H' z, Bu r H H' → Rng H' r (n + 1) → z ∈ zs → Q (.int z) H') :
    tOp (rIxL K) (tLst tr) (tCall spDraw [] E (tCons (tVar j) (tCons (tC (.int (l : Nat))) tNil))) σ H Q := by
  refine h H (Ex.refl H) _ fun H0 e0 => ⟨by rw [List.length_map]; exact sz_of (by omega), fun t nt => ?_⟩
  have e1 : Ex H (upd H0 t (.lst (zs.map V.int))) := e0.trans (Ex.new nt)
  have htr : t ≠ r := by
    obtain ⟨d, s2, c, q, _⟩ := g.ex e0
    exact fun z => by
      rw [z, q] at nt
      cases nt
  refine draw_at (l := (l : Nat)) (n := n) (ea_cons (ev_var hj) (ea_cons ev_c ea_nil)) (by omega) (log_small (by omega)) hn (g.ex e1) fun H2 v b2 g2 v0 v1 => ?_
  have h2 : H2 t = some (.lst (zs.map V.int)) := b2 _ _ htr upd_same
  obtain ⟨i, rfl⟩ : ∃ i : Nat, v = (i : Int) := ⟨v.toNat, by omega⟩
  have hi : i < zs.length := by omega
  exact ⟨t, _, (i : Int), .int zs[i], rfl, rfl, sq_of h2, atI_nat (by rw [List.getElem?_map, List.getElem?_eq_getElem hi]; rfl), k H2 zs[i] ((Bu.of e1).trans b2) g2 (List.getElem_mem hi)⟩
/-- one of several written texts, drawn -/
theorem pickS {r : Addr} {zs : List Str} {l n j : Nat} {E : XK} {Q : VK} (h : EvA tr σ H (zs.map V.str)) (hl : zs.length = l) (l0 : 0 < l) (l1 : l ≤ 100) (g : Rng H r n) (hn : n < 2 ^ 60) (hj : σ[j]? = some (some (.ref r))) (k : ∀ H' z, Bu r H H' → Rng H' r (n + 1) → z ∈ zs → Q (.str z) H') :
    tOp (rIxL K) (tLst tr) (tCall spDraw [] E (tCons (tVar j) (tCons (tC (.int (l : Nat))) tNil))) σ H Q := by
  refine h H (Ex.refl H) _ fun H0 e0 => ⟨by rw [List.length_map]; exact sz_of (by omega), fun t nt => ?_⟩
  have e1 : Ex H (upd H0 t (.lst (zs.map V.str))) := e0.trans (Ex.new nt)
  have htr : t ≠ r := by
    obtain ⟨d, s2, c, q, _⟩ := g.ex e0
    exact fun z => by
      rw [z, q] at nt
      cases nt
  refine draw_at (l := (l : Nat)) (n := n) (ea_cons (ev_var hj) (ea_cons ev_c ea_nil)) (by omega) (log_small (by omega)) hn (g.ex e1) fun H2 v b2 g2 v0 v1 => ?_
  have h2 : H2 t = some (.lst (zs.map V.str)) := b2 _ _ htr upd_same
  obtain ⟨i, rfl⟩ : ∃ i : Nat, v = (i : Int) := ⟨v.toNat, by omega⟩
  have hi : i < zs.length := by omega
  exact ⟨t, _, (i : Int), .str zs[i], rfl, rfl, sq_of h2, atI_nat (by rw [List.getElem?_map, List.getElem?_eq_getElem hi]; rfl), k H2 zs[i] ((Bu.of e1).trans b2) g2 (List.getElem_mem hi)⟩
end
theorem cut_ints (ns : List Int) (lo hi : Option Int) : ∃ zs : List Int, cutV (ns.map V.int) lo hi = zs.map V.int ∧ (∀ z ∈ zs, z ∈ ns) ∧ zs.length ≤ ns.length := by
  refine ⟨(ns.drop (HT.sIx (ns.map V.int).length 0 lo)).take (HT.sIx (ns.map V.int).length (ns.map V.int).length hi - HT.sIx (ns.map V.int).length 0 lo), ?_, fun z hz => List.mem_of_mem_drop (List.mem_of_mem_take hz), ?_⟩
  · unfold cutV
    rw [List.map_take, List.map_drop]
  · rw [List.length_take, List.length_drop]
    omega
/-! ### the first wrong width, found the law's way -/
def small (z : Int) : Prop := z.natAbs < 2 ^ 110
/-- the law's test of the width at i -/
def badAt (ns : List Int) (i : Nat) : Bool := decide (ns.getD i 0 < 2) || (decide (ns.getD i 0 > 128) || decide (ns.getD i 0 < (2 :: ns).getD i 0))
def wOf : Option V → List V
  | none => []
  | some v => [v]
def spBad (K : PySem.W.Frag) : Sp := fun vs H Q _ => ∃ r p m n, vs = [.ref r, .ref p] ∧ AtM K H p m ∧ m.Ok ∧ n < 2 ^ 50 ∧ Rng H r n ∧
  ∀ q a b H' ns pl, Bu r H H' → Rng H' r (n + 8) → H q = none → q ≠ r → H' q = some (.lst [.ref a, .ref b]) → AtX K H' a ns pl → H' b = some (.lst (wOf (tm ns pl))) → b ≠ r → (∀ z ∈ ns, small z) → ns.length ≤ 12 → Sm (.str pl) → Q (.ref q) H'
end Cf
namespace Cf
open PySem PySem.Spec PyProof.Rows L2 Evl
theorem badAt_zero {n : Int} {r : List Int} : badAt (n :: r) 0 = (decide (n < 2) || decide (n > 128)) := by
  unfold badAt
  simp only [List.getD_cons_zero]
  by_cases h : n < 2 <;> by_cases h2 : n > 128 <;> simp [h, h2]
/-- the first in the law's list is the one that the document's order finds -/
theorem firstBad_given (C : Addr) : ∀ (ns : List Int) (l : Int) (i : Nat) (f : Nat → Bool), 2 ≤ l →
    (∀ j, j < ns.length → f (i + j) = (decide (ns.getD j 0 < 2) || (decide (ns.getD j 0 > 128) || decide (ns.getD j 0 < (l :: ns).getD j 0)))) →
    firstBad C l i ns = (((List.range' i ns.length).filter f).head?).map fun j => (C, V.int (j : Nat))
  | [], _, _, _, _, _ => rfl
  | n :: r, l, i, f, hl, hf => by
    have h0 := hf 0 (by simp)
    simp only [Nat.add_zero, List.getD_cons_zero] at h0
    rw [List.length_cons, List.range'_succ, List.filter_cons]
    unfold firstBad
    by_cases c : n < l ∨ 128 < n
    · have : f i = true := by
        rw [h0]
        rcases c with c | c
        · simp [c]
        · have : n > 128 := c
          simp [this]
      rw [if_pos c, if_pos this]
      rfl
    · have hno : f i = false := by
        rw [h0]
        have a1 : ¬ n < l := fun z => c (.inl z)
        have a2 : ¬ n > 128 := fun z => c (.inr z)
        have a3 : ¬ n < 2 := by omega
        simp [a1, a2, a3]
      rw [if_neg c, if_neg (by rw [hno]; decide)]
      refine firstBad_given C r n (i + 1) f (by omega) fun j hj => ?_
      have := hf (j + 1) (by simp; omega)
      have e : i + (j + 1) = i + 1 + j := by omega
      rw [e] at this
      rw [this]
      simp only [List.getD_cons_succ]
/-- what the law makes of its list of wrong places -/
theorem tm_of (ns : List Int) (pl : Str) (h5 : ns.length = 5) : tm ns pl = match ((List.range ns.length).filter (badAt ns)).head? with
    | some j => some (.int (j : Nat))
    | none => if plOk pl then none else some .non := by
  unfold tm chkM chkW
  rw [if_pos h5, firstBad_given 0 ns 2 0 (badAt ns) (by decide) (fun j _ => by rw [Nat.zero_add]; rfl), List.range_eq_range']
  cases ((List.range' 0 ns.length).filter (badAt ns)).head? with
  | some j => rfl
  | none =>
    show Option.map _ (if plOk pl then none else some (0, V.non)) = if plOk pl then none else some V.non
    by_cases p : plOk pl <;> simp [p]
theorem tm_len (ns : List Int) (pl : Str) (h5 : ns.length ≠ 5) : tm ns pl = some .non := by
  unfold tm chkM chkW
  rw [if_neg h5]
  rfl
end Cf
namespace Cf
open PySem PySem.Spec PyProof.Rows L2 Evl
theorem par3_raw {ta : TA} {tz : TS} {D : Ends} {i j l : Nat} {σ : L2.St} {H : Hp} (h : ta σ H fun vs H1 => ∃ u v w, vs = [u, v, w] ∧ tz D (((σ.set i (some u)).set j (some v)).set l (some w)) H1) : tSeq (tPar3 i j l ta) tz D σ H := h
theorem el_listT {K : PySem.W.Frag} {σ : L2.St} {H : Hp} {ta : TE} {p : Addr} {xs : List V} (ha : Ev ta σ H (.ref p)) (h : SqT K H p xs) : EvL (tCB (rListS K) (tCons ta tNil)) σ H xs := fun H1 e Q q =>
  ha H1 e _ fun H2 e2 => ⟨p, xs, rfl, .inr (ex_t (e.trans e2) h), fun l nl => q l _ (fresh_back e2 nl) (e2.trans (Ex.new nl)) upd_same⟩
structure Sg (H0 H : Hp) (r : Addr) (n : Nat) (lw : Addr) (ns : List Int) : Prop where
  bu : Bu r H0 H
  g : Rng H r n
  n0 : H0 lw = none
  nr : lw ≠ r
  hl : H lw = some (.lst (ns.map V.int))
  sm : ∀ z ∈ ns, small z
theorem Sg.b {H0 H H' : Hp} {r lw : Addr} {n n' : Nat} {ns : List Int} (s : Sg H0 H r n lw ns) (e : Bu r H H') (g : Rng H' r n') : Sg H0 H' r n' lw ns := ⟨s.bu.trans e, g, s.n0, s.nr, e _ _ s.nr s.hl, s.sm⟩
theorem Sg.ex {H0 H H' : Hp} {r lw : Addr} {n : Nat} {ns : List Int} (s : Sg H0 H r n lw ns) (e : Ex H H') : Sg H0 H' r n lw ns := s.b (Bu.of e) (s.g.ex e)
theorem Sg.le {H0 H : Hp} {r lw : Addr} {n n' : Nat} {ns : List Int} (s : Sg H0 H r n lw ns) (l : n ≤ n') : Sg H0 H r n' lw ns := ⟨s.bu, s.g.le l, s.n0, s.nr, s.hl, s.sm⟩
theorem Sg.set {H0 H : Hp} {r lw : Addr} {n j : Nat} {ns : List Int} {z : Int} (s : Sg H0 H r n lw ns) (hz : small z) : Sg H0 (upd H lw (.lst ((ns.map V.int).set j (.int z)))) r n lw (ns.set j z) where
  bu := fun b o nb q => by
    rw [upd_ne (fun e => by rw [e, s.n0] at q; cases q)]
    exact s.bu _ _ nb q
  g := by
    obtain ⟨d, s2, c, q, q2⟩ := s.g
    exact ⟨d, s2, c, by rw [upd_ne (Ne.symm s.nr)]; exact q, q2⟩
  n0 := s.n0
  nr := s.nr
  hl := by rw [upd_same, List.map_set]
  sm := fun y hy => by
    rcases List.mem_or_eq_of_mem_set hy with h | h
    · exact s.sm y h
    · rw [h]; exact hz
theorem fresh_bu {H0 H : Hp} {r l : Addr} {n : Nat} (b : Bu r H0 H) (g : Rng H r n) (h : H l = none) : H0 l = none ∧ l ≠ r := by
  have nr : l ≠ r := fun z => by
    obtain ⟨d, s2, c, q, _⟩ := g
    rw [z, q] at h
    cases h
  refine ⟨?_, nr⟩
  cases q : H0 l with
  | none => rfl
  | some o =>
    have := b _ _ nr q
    rw [h] at this
    cases this
theorem Sg.re {H0 H H' : Hp} {r lw l : Addr} {n n' : Nat} {ns zs : List Int} (s : Sg H0 H r n lw ns) (e : Bu r H H') (g : Rng H' r n') (nl : H l = none) (hl : H' l = some (.lst (zs.map V.int))) (sm : ∀ z ∈ zs, small z) : Sg H0 H' r n' l zs := by
  obtain ⟨a, b⟩ := fresh_bu s.bu s.g nl
  exact ⟨s.bu.trans e, g, a, b, hl, sm⟩
theorem small_of {z : Int} {zs : List Int} (h : z ∈ zs) (hs : (zs.all fun z => decide (z.natAbs < 2 ^ 110)) = true) : small z := (of_decide_eq_true (List.all_eq_true.mp hs z h) : z.natAbs < 2 ^ 110)
end Cf
namespace Cf
open PySem PySem.Spec PyProof.Rows L2 Evl
theorem el_if {σ : L2.St} {H : Hp} {t : TT} {ta tb : TE} {b : Bool} {xs : List V} (h : EvT t σ H b) (h1 : b = true → EvL ta σ H xs) (h2 : b = false → EvL tb σ H xs) : EvL (tIf t ta tb) σ H xs := fun H1 e Q q => h H1 e _ fun H2 e2 => by
  cases b with
  | true => exact iteT (h1 rfl H2 (e.trans e2) Q fun p H3 n e3 h3 => q p H3 (fresh_back e2 n) (e2.trans e3) h3)
  | false => exact iteF (h2 rfl H2 (e.trans e2) Q fun p H3 n e3 h3 => q p H3 (fresh_back e2 n) (e2.trans e3) h3)
def natD (js : List Nat) : List PyData := js.map fun j => .int (j : Nat)
theorem natD_lay : ∀ js : List Nat, PyData.canLayAll0 (natD js) = true
  | [] => by simp [natD, PyData.canLayAll0]
  | j :: js => by
    have ih := natD_lay js
    unfold natD at ih ⊢
    simp [PyData.canLayAll0, PyData.canLay0, ih]
theorem natD_depth : ∀ js : List Nat, PyData.depthAll (natD js) ≤ 2
  | [] => by simp [natD, PyData.depthAll]
  | j :: js => by
    have ih := natD_depth js
    unfold natD at ih ⊢
    simp only [List.map_cons, PyData.depthAll, PyData.depth]
    omega
theorem natD_shaped (js : List Nat) : SeqAt.shaped (.list (natD js)) = true := by
  have h1 := natD_depth js
  show (PyData.canLay0 (.list (natD js)) && decide (PyData.depth (.list (natD js)) ≤ 64)) = true
  rw [Bool.and_eq_true]
  refine ⟨by simp only [PyData.canLay0]; exact natD_lay js, decide_eq_true ?_⟩
  simp only [PyData.depth]
  omega
theorem natD_dp {K : PySem.W.Frag} {H : Hp} : ∀ js : List Nat, DpAll K H (js.map fun j => V.int (j : Nat)) (natD js)
  | [] => .nil
  | j :: js => .cons (.int _) (natD_dp js)
/-- xs != [] -/
theorem ev_neNil {K : PySem.W.Frag} {σ : L2.St} {H : Hp} {ta : TE} {a : Addr} {js : List Nat} (ha : Ev ta σ H (.ref a)) (h : H a = some (.lst (js.map fun j => V.int (j : Nat)))) : Ev (tOp (rNeD K) ta (tLst tNil)) σ H (.bl (!js.isEmpty)) :=
  ev_opL (xs := []) ha (el_lst ea_nil (by decide)) fun q H1 hq e => fun H2 e2 Q k => ⟨.list (natD js), .list (natD []), .lst (sq_of (e2 _ _ (e _ _ h))) (natD_dp js), .lst (sq_of (e2 _ _ hq)) .nil, natD_shaped js, natD_shaped [], by
    have : PyData.eqv (.list (natD js)) (.list (natD [])) = js.isEmpty := by
      cases js with
      | nil => rfl
      | cons j js => simp [natD, PyData.eqv, PyData.eqvAll]
    rw [this]
    exact k H2 (Ex.refl H2)⟩
theorem given_eq (n : Nat) (f : Nat → Bool) : given n f (fun i => V.int (i : Nat)) = ((List.range n).filter f).map fun j => V.int (j : Nat) := rfl
end Cf
namespace Cf
open PySem PySem.Spec PyProof.Rows L2 Evl
def vODD : List V := [.str "", .str "Int", .str "intt", .str "in", .str "u", .str "unsigned", .str "longs", .str "int ", .str "float"]
def labs : List Str := ["char", "schar", "uchar", "short", "ushort", "int", "uint", "long", "ulong", "wide", "uwide", "", "Int", "intt", "in", "u", "unsigned", "longs", "int ", "float"]
def spLabel : Sp := fun vs H Q _ => ∃ r n, vs = [.ref r] ∧ n < 2 ^ 50 ∧ Rng H r n ∧ ∀ H' x, Bu r H H' → Rng H' r (n + 1) → x ∈ labs → Q (.str x) H'
end Cf
namespace Cf
open PySem PySem.Spec PyProof.Rows L2 Evl
theorem AtX.bu {K : PySem.W.Frag} {r p : Addr} {n : Nat} {H H1 : Hp} {ns : List Int} {pl : Str} (e : Bu r H H1) (g : Rng H r n) (h : AtX K H p ns pl) : AtX K H1 p ns pl := by
  obtain ⟨q, a, b⟩ := h
  exact ⟨q, e.t g a, e.t g b⟩
theorem AtX.dp {K : PySem.W.Frag} {H : Hp} {p : Addr} {ns : List Int} {pl : Str} (h : AtX K H p ns pl) : Dp K H (.ref p) (.tuple [.tuple (ns.map PyData.int), .str pl]) := by
  obtain ⟨q, a, b⟩ := h
  exact .tup a (.cons (.tup b (dp_ints _)) (.cons (.str _) .nil))
theorem sm_ints : ∀ {ns : List Int}, (∀ z ∈ ns, small z) → SmAll (ns.map PyData.int)
  | [], _ => trivial
  | n :: r, h => ⟨by
    have := h n List.mem_cons_self
    unfold small at this
    show n.natAbs < 2 ^ 140
    omega, sm_ints fun z hz => h z (List.mem_cons_of_mem _ hz)⟩
theorem sz_ints : ∀ ns : List Int, szAll (ns.map PyData.int) = ns.length
  | [] => rfl
  | n :: r => by
    show 1 + szAll (r.map PyData.int) = r.length + 1
    rw [sz_ints r]
    omega
theorem depth_ints : ∀ ns : List Int, PyData.depthAll (ns.map PyData.int) ≤ 2
  | [] => by simp [PyData.depthAll]
  | n :: r => by
    have := depth_ints r
    simp only [List.map_cons, PyData.depthAll, PyData.depth]
    omega
theorem labs_sm : ∀ x ∈ labs, Sm (.str x) := by
  have h : (labs.all fun x => decide (x.cps.size ≤ 30) && x.cps.toList.all fun c => decide (c < 16 ^ 8)) = true := by decide +kernel
  intro x hx
  have := List.all_eq_true.mp h x hx
  rw [Bool.and_eq_true] at this
  exact ⟨of_decide_eq_true this.1, this.2⟩
/-- what is told, as data -/
def dV : V → PyData
  | .int i => .int i
  | .str s => .str s
  | _ => .none
def okV (v : V) : Prop := v = .non ∨ (∃ i, v = .int i ∧ i.natAbs < 2 ^ 140) ∨ ∃ x, v = .str x ∧ Sm (.str x)
def dat : Option (Bool × V) → PyData
  | none => .none
  | some (b, v) => .list [.str (nmOf b), dV v]
def okO (o : Option (Bool × V)) : Prop := ∀ b v, o = some (b, v) → okV v
def Tv (H : Hp) (o : Option (Bool × V)) (x : V) : Prop := (o = none ∧ x = .non) ∨ ∃ b v a, o = some (b, v) ∧ x = .ref a ∧ H a = some (.lst [.str (nmOf b), v])
theorem Tv.ex {H H' : Hp} {o : Option (Bool × V)} {x : V} (h : Tv H o x) (e : Ex H H') : Tv H' o x := by
  rcases h with h | ⟨b, v, a, h1, h2, h3⟩
  · exact .inl h
  · exact .inr ⟨b, v, a, h1, h2, e _ _ h3⟩
theorem dV_dp {K : PySem.W.Frag} {H : Hp} {v : V} (h : okV v) : Dp K H v (dV v) := by
  rcases h with rfl | ⟨i, rfl, _⟩ | ⟨x, rfl, _⟩
  · exact .non
  · exact .int i
  · exact .str x
theorem dV_sm {v : V} (h : okV v) : Sm (dV v) := by
  rcases h with rfl | ⟨i, rfl, h⟩ | ⟨x, rfl, h⟩
  · trivial
  · exact h
  · exact h
theorem dV_sz (v : V) : szD (dV v) = 1 := by cases v <;> rfl
theorem dV_depth (v : V) : PyData.depth (dV v) ≤ 1 := by cases v <;> simp [dV, PyData.depth]
theorem Tv.dp {K : PySem.W.Frag} {H : Hp} {o : Option (Bool × V)} {x : V} (h : Tv H o x) (k : okO o) : Dp K H x (dat o) := by
  rcases h with ⟨rfl, rfl⟩ | ⟨b, v, a, rfl, rfl, h⟩
  · exact .non
  · exact .lst (sq_of h) (.cons (.str _) (.cons (dV_dp (k b v rfl)) .nil))
theorem nm_sm (b : Bool) : Sm (.str (nmOf b)) := by cases b <;> exact ⟨by decide, by decide⟩
theorem dat_sm {o : Option (Bool × V)} (k : okO o) : Sm (dat o) := by
  cases o with
  | none => trivial
  | some z =>
    obtain ⟨b, v⟩ := z
    exact ⟨nm_sm b, dV_sm (k b v rfl), trivial⟩
theorem dat_sz (o : Option (Bool × V)) : szD (dat o) ≤ 3 := by
  cases o with
  | none => decide
  | some z =>
    obtain ⟨b, v⟩ := z
    show 1 + (1 + (szD (dV v) + 0)) ≤ 3
    rw [dV_sz]
    omega
theorem dat_depth (o : Option (Bool × V)) : PyData.depth (dat o) ≤ 4 := by
  cases o with
  | none => simp [dat, PyData.depth]
  | some z =>
    obtain ⟨b, v⟩ := z
    have := dV_depth v
    simp only [dat, PyData.depth, PyData.depthAll]
    omega
theorem firstBad_ok {C : Addr} : ∀ {ns : List Int} {l : Int} {i : Nat} {z : Addr × V}, firstBad C l i ns = some z → i + ns.length ≤ 100 → okV z.2
  | [], _, _, _, h, _ => nomatch h
  | n :: r, l, i, z, h, hl => by
    unfold firstBad at h
    rw [List.length_cons] at hl
    split at h
    · cases h
      exact .inr (.inl ⟨_, rfl, by omega⟩)
    · exact firstBad_ok h (by omega)
theorem tm_okV {ns : List Int} {pl : Str} {v : V} (h : tm ns pl = some v) (hl : ns.length ≤ 12) : okV v := by
  unfold tm chkM chkW at h
  by_cases h5 : ns.length = 5
  · rw [if_pos h5] at h
    cases q : firstBad 0 2 0 ns with
    | none =>
      rw [q] at h
      by_cases p : plOk pl <;> simp [p] at h
      exact .inl h.symm
    | some z =>
      rw [q] at h
      cases h
      exact firstBad_ok q (by omega)
  · rw [if_neg h5] at h
    cases h
    exact .inl rfl
theorem tk_okV {x : Str} {v : V} (h : tkd x = some v) (hx : Sm (.str x)) : okV v := by
  unfold tkd at h
  split at h
  · exact nomatch h
  · cases h
    exact .inr (.inr ⟨x, rfl, hx⟩)
theorem told1_ok {ns : List Int} {pl x : Str} (hl : ns.length ≤ 12) (hx : Sm (.str x)) : okO (told1 ns pl x) := fun b v h => by
  unfold told1 at h
  cases q : tm ns pl with
  | some z =>
    rw [q] at h
    cases h
    exact tm_okV q hl
  | none =>
    rw [q] at h
    obtain ⟨z, h1, h2⟩ := Option.map_eq_some_iff.mp h
    cases h2
    exact tk_okV h1 hx
theorem told2_ok {ns : List Int} {pl x y : Str} (hl : ns.length ≤ 12) (hx : Sm (.str x)) (hy : Sm (.str y)) : okO (told2 ns pl x y) := fun b v h => by
  unfold told2 at h
  cases q : told1 ns pl x with
  | some z =>
    rw [q] at h
    cases h
    exact told1_ok hl hx _ _ q
  | none =>
    rw [q] at h
    obtain ⟨z, h1, h2⟩ := Option.map_eq_some_iff.mp h
    cases h2
    exact tk_okV h1 hy
theorem et_isN {σ : L2.St} {H : Hp} {ta : TE} {v : V} (h : Ev ta σ H v) : EvT (tB (tIsN ta)) σ H (decide (v = .non)) := fun H1 e Q q => h H1 e _ fun H2 e2 => ⟨_, rfl, q H2 e2⟩
theorem asg_raw {te : TE} {g : TG} {tz : TS} {D : Ends} {σ : L2.St} {H : Hp} (h : te σ H fun x H1 => g x σ H1 (tz D)) : tSeq (tAsg te g) tz D σ H := h
/-- wrong != [] -/
theorem ev_neW {K : PySem.W.Frag} {σ : L2.St} {H : Hp} {ta : TE} {a : Addr} {o : Option V} (ha : Ev ta σ H (.ref a)) (h : H a = some (.lst (wOf o))) (k : ∀ v, o = some v → okV v) (hs : ∀ v, o = some v → SeqAt.shaped (.list [dV v]) = true) : Ev (tOp (rNeD K) ta (tLst tNil)) σ H (.bl o.isSome) :=
  ev_opL (xs := []) ha (el_lst ea_nil (by decide)) fun q H1 hq e => fun H2 e2 Q kq => by
    cases o with
    | none => exact ⟨.list [], .list [], .lst (sq_of (e2 _ _ (e _ _ h))) .nil, .lst (sq_of (e2 _ _ hq)) .nil, natD_shaped [], natD_shaped [], by
        have : PyData.eqv (.list []) (.list []) = true := by simp [PyData.eqv, PyData.eqvAll]
        rw [this]
        exact kq H2 (Ex.refl H2)⟩
    | some v => exact ⟨.list [dV v], .list [], .lst (sq_of (e2 _ _ (e _ _ h))) (.cons (dV_dp (k v rfl)) .nil), .lst (sq_of (e2 _ _ hq)) .nil, hs v rfl, natD_shaped [], by
        have : PyData.eqv (.list [dV v]) (.list []) = false := by simp [PyData.eqv, PyData.eqvAll]
        rw [this]
        exact kq H2 (Ex.refl H2)⟩
end Cf
namespace Cf
open PySem PySem.Spec PyProof.Rows L2 Evl
theorem firstBad_int {C : Addr} : ∀ {ns : List Int} {l : Int} {i : Nat} {z : Addr × V}, firstBad C l i ns = some z → ∃ j : Int, z.2 = .int j
  | [], _, _, _, h => nomatch h
  | n :: r, l, i, z, h => by
    unfold firstBad at h
    split at h
    · cases h
      exact ⟨_, rfl⟩
    · exact firstBad_int h
theorem tm_shape {ns : List Int} {pl : Str} {v : V} (h : tm ns pl = some v) : SeqAt.shaped (.list [dV v]) = true := by
  have hv : v = .non ∨ ∃ j : Int, v = .int j := by
    unfold tm chkM chkW at h
    by_cases h5 : ns.length = 5
    · rw [if_pos h5] at h
      cases q : firstBad 0 2 0 ns with
      | none =>
        rw [q] at h
        by_cases p : plOk pl <;> simp [p] at h
        exact .inl h.symm
      | some z =>
        rw [q] at h
        cases h
        exact .inr (firstBad_int q)
    · rw [if_neg h5] at h
      cases h
      exact .inl rfl
  rcases hv with rfl | ⟨j, rfl⟩
  · rfl
  · show (PyData.canLay0 (.list [.int j]) && decide (PyData.depth (.list [.int j]) ≤ 64)) = true
    simp [PyData.canLay0, PyData.canLayAll0, PyData.depth, PyData.depthAll]
def ds6 (o1 o2 : Option (Bool × V)) : List PyData := [dat o1, dat o1, dat o1, dat o1, dat o1, dat o2]
theorem ds6_sm {o1 o2 : Option (Bool × V)} (k1 : okO o1) (k2 : okO o2) : Sm (.list (ds6 o1 o2)) := ⟨dat_sm k1, dat_sm k1, dat_sm k1, dat_sm k1, dat_sm k1, dat_sm k2, trivial⟩
theorem ds6_sz (o1 o2 : Option (Bool × V)) : szD (.list (ds6 o1 o2)) ≤ 800 := by
  have h1 := dat_sz o1
  have h2 := dat_sz o2
  show 1 + (szD (dat o1) + (szD (dat o1) + (szD (dat o1) + (szD (dat o1) + (szD (dat o1) + (szD (dat o2) + 0)))))) ≤ 800
  omega
theorem ds6_depth (o1 o2 : Option (Bool × V)) : PyData.depth (.list (ds6 o1 o2)) ≤ 60 := by
  have h1 := dat_depth o1
  have h2 := dat_depth o2
  simp only [ds6, PyData.depth, PyData.depthAll]
  omega
theorem told2_of_some {ns : List Int} {pl x y : Str} {z : Bool × V} (h : told1 ns pl x = some z) : told2 ns pl x y = some z := by
  unfold told2
  rw [h]
theorem kdOk_good (x : Str) : inV (.str x) vKINDS = kdOk x := rfl
theorem toldP_lt {i : Nat} {ns : List Int} {pl x y : Str} (h : i < 5) : toldP (0 + (i : Int)) ns pl x y = told1 ns pl x := by
  unfold toldP
  rw [if_neg (by omega)]
theorem toldP_5 {ns : List Int} {pl x y : Str} : toldP (0 + ((5 : Nat) : Int)) ns pl x y = told2 ns pl x y := rfl
end Cf
namespace Cf
open PySem PySem.Spec PyProof.Rows L2 Evl
theorem lcr_go {tr : TA} {g : TG} {tt : TT} {te : TE} {vs : List Nat} {σ : L2.St} {H : Hp} {Q : VK} {n : Nat} (h : EvA tr σ H [.int (n : Nat)]) (hn : n ≤ 100000)
    (Pv : Hp → Addr → Nat → Hp → Prop) (h0 : ∀ H1 D, Ex H H1 → H1 D = none → Pv H1 D 0 (upd H1 D (.lst [])))
    (hs : ∀ H1 D i H', Ex H H1 → H1 D = none → i < n → Pv H1 D i H' → g (.int (0 + (i : Nat))) (wipe σ vs) H' fun σ2 H2 => wipe σ2 vs = wipe σ vs ∧ tt σ2 H2 fun b H3 =>
      if b = true then te σ2 H3 fun y H4 => ∃ acc, H4 D = some (.lst acc) ∧ acc.length < sizeLine ∧ Pv H1 D (i + 1) (upd H4 D (.lst (acc ++ [y]))) else Pv H1 D (i + 1) H3)
    (hd : ∀ H1 D H', Ex H H1 → H1 D = none → Pv H1 D n H' → Q (.ref D) H') : tLc (iRng1 tr) g tt te vs σ H Q :=
  h H (Ex.refl H) _ fun H1 e1 => ⟨(n : Int), rfl, by omega, by omega, fun D hD => lc_range (lo := 0) (n := n) (Pv H1 D) (h0 H1 D e1 hD) (fun i H' hi p => hs H1 D i H' e1 hD hi p) (fun H' p => hd H1 D H' e1 hD p)⟩
end Cf
namespace Cf
open PySem PySem.Spec PyProof.Rows L2 Evl
theorem yes_if {σ : L2.St} {H : Hp} {A B : Hp → Prop} (h : A H) : tYes σ H fun b H3 => if b = true then A H3 else B H3 := (if_true_of_ rfl h : if true = true then A H else B H)
end Cf
namespace Cf
open PySem PySem.Spec PyProof.Rows L2 Evl
theorem next_raw {D : Ends} {σ : L2.St} {H : Hp} (h : D.nx σ H) : tNext D σ H := h
theorem ret_raw {te : TE} {D : Ends} {σ : L2.St} {H : Hp} (h : te σ H D.rt) : tRet te D σ H := h
end Cf

namespace PySem.CfK
open PySem.W PySem.Calls PyProof.Rows PySem.HandSPX
/-! ## an own exception made by keywords alone -/
section
variable {M : Model} {A : Around} {E : Value → Shared → Prop} {h : Heap} {g : Array GenState} {d : Drawn} {t : Nat} {os : OsState}
variable {nm q : Str} {C N : Addr} {bs bm bmB : List Value} {hdct : Bool} {sn : List Str} {sub : List Value} {ab : Bool} {col : Option Bool} {dd : Option Addr} {k0 k1 k2 k3 k5 : Option Value} {B newId initId : String}
theorem check_new_ownK (F : ExcBaseFacts B newId initId bmB) (hT : ∀ X : String, bm.contains (.type X) = bmB.contains (.type X)) {kw : List (Str × Value)} {Q : Unit → Shared → Prop}
    (hC : h.get? C = some (excClassObj nm q C N bs bm hdct sn sub ab col dd k0 k1 k2 k3 k5 newId)) (hq : Q () ⟨h, g, d, t, os⟩) : wpAny M A (checkBuiltinCall newId ⟨[.ref C], kw⟩) Q E ⟨h, g, d, t, os⟩ := by
  have hcont : (Value.ref C :: bm).contains (.type B) = true := by rw [List.contains_cons, hT, F.hasB, Bool.or_true]
  have hstar := F.noStar
  simp only [checkBuiltinCall, F.newKind, F.newSplit, F.newRow]
  repeat (first | refine wpAny_loadPart_at hC ?_ | (refine wpAny_isSubtype_exc hC ?_; rw [hcont]) | refine wpAny_staticBase_exc hC ?_ | refine wpAny_madeBy_exc hC ?_ | simp only [bne_self_eq_false, Bool.false_eq_true, if_false] | wp_step)
  exact hq
end
section
variable {prog : Program} {w : World} {A : Around} {E : Value → Shared → Prop} {R : Result → Shared → Prop} {h : Heap} {g : Array GenState} {d : Drawn} {t : Nat} {os : OsState}
variable {nm q : Str} {C N : Addr} {bs bm bmB : List Value} {hdct : Bool} {sn : List Str} {sub : List Value} {ab : Bool} {col : Option Bool} {dd : Option Addr} {k0 k1 k2 k3 k5 : Option Value} {B newId initId : String}
theorem new_ownK (F : ExcBaseFacts B newId initId bmB) (hT : ∀ X : String, bm.contains (.type X) = bmB.contains (.type X)) {kw : List (Str × Value)}
    (hC : h.get? C = some (excClassObj nm q C N bs bm hdct sn sub ab col dd k0 k1 k2 k3 k5 newId))
    (hq : R (.ok (.ret (.ref (h.objs.size + 1)))) ⟨(h.push { cls := .type "tuple", data := .seq #[] }).push
      { cls := .ref C, data := .fields #[.ref h.objs.size, .none, .none, .none, .bool false, .none] }, g, d, t, os⟩) :
    codeAny (model prog w) A (.builtin newId ⟨[.ref C], kw⟩) R ⟨h, g, d, t, os⟩ := by
  have hends := F.ends
  have hcB : (Value.ref C :: bm).contains (.type B) = true := by rw [List.contains_cons, hT, F.hasB, Bool.or_true]
  have hcA : (Value.ref C :: bm).contains (.type "AttributeError") = false := by rw [List.contains_cons, hT, F.noAttr]; rfl
  have hcN : (Value.ref C :: bm).contains (.type "NameError") = false := by rw [List.contains_cons, hT, F.noName]; rfl
  refine codeAny_builtinAt F.entry ?_
  unfold Builtin.«BaseException.__new__»
  refine wpAt_bind ?_
  show wpAt _ _ _ (stack >>= _) _ _ _
  refine wpAt_bind (wpAt_stack fun p below => wpAt_of_wpAny ?_)
  wp_walk
  refine wpAt_of_wpAny ?_
  rw [F.owner]
  repeat (first | with_reducible refine wpAny_madeHere_exc F.canon hC ?_ | with_reducible refine wpAny_loadPart_at hC ?_ | (with_reducible refine wpAny_isSubtype_exc hC ?_; first | rw [hcB] | rw [hcA] | rw [hcN]) | wp_step)
  show R _ _
  rw [Heap.size_push]
  exact hq
theorem type_call_ownK (F : ExcBaseFacts B newId initId bmB) (hT : ∀ X : String, bm.contains (.type X) = bmB.contains (.type X)) {kw : List (Str × Value)} {fI : Addr} {Q : Fin → Shared → Prop}
    (hC : h.get? C = some (excClassObj nm q C N bs bm hdct sn sub ab col dd k0 k1 k2 k3 k5 newId))
    (hi : W.Looks (model prog w) h (typeLookup (.ref C) "__init__") (some (.ref fI))) (hb : ∀ self, W.Looks (model prog w) h (bindSpecial (.ref fI) self) (.ref fI, [self]))
    (hq : codeAny (model prog w) A (.call (.ref fI) ⟨[.ref (h.objs.size + 1)], kw⟩)
      (fun r s' => match r with | .ok (.ret v) => v = .none ∧ Q (.done (.ret (.ref (h.objs.size + 1)))) s' | .ok _ => False | .error e => E e s')
      ⟨(h.push (W.kdv_tup [])).push (excO C h.objs.size), g, d, t, os⟩) :
    wpAny (model prog w) A (Builtin.«type.__call__» ⟨[.ref C], kw⟩) Q E ⟨h, g, d, t, os⟩ := by
  repeat (first | with_reducible refine wpAny_loadPart_at hC ?_ | with_reducible refine wpAny_madeBy_exc hC ?_ | wp_step)
  refine codeAny_call_builtin_code (Code.quiet_builtin _ F.quiet) (check_new_ownK F hT hC ?_)
  refine new_ownK F hT hC ?_
  show wpAny _ _ _ _ _ _
  have k : ∀ b o, h.get? b = some o → ((h.push (W.kdv_tup [])).push (excO C h.objs.size)).get? b = some o := fun b o e => Heap.get?_push_of_some _ (Heap.get?_push_of_some _ e)
  have hC₁ := k _ _ hC
  have hget : ((h.push (W.kdv_tup [])).push (excO C h.objs.size)).get? (h.objs.size + 1) = some (excO C h.objs.size) := by heap_get
  have hcC : (Value.ref C :: bm).contains (.ref C) = true := by simp
  have i1 := hi.keeps k
  have b1 := (hb (.ref (h.objs.size + 1))).keeps k
  unfold isInstance
  repeat (first | with_reducible refine wpAny_loadPart_at hget ?_ | (with_reducible refine wpAny_isSubtype_exc hC₁ ?_; rw [hcC]) | wp_step)
  show wpAny _ _ (typeLookup (.ref C) _) _ _ _
  refine i1.at ?_
  refine wpAny_holding (wpAny_bind (b1.at ?_))
  refine wpAny_bind (wpAny_call (codeAny_mono hq fun r s' z => ?_))
  rcases r with e | (v | _ | _ | _) <;> first | exact z | exact z.elim | skip
  obtain ⟨rfl, z⟩ := z
  first
    | exact wpAny_pure (wpAny_pure z)
    | (wp_walk; exact z)
theorem call_ownK (F : ExcBaseFacts B newId initId bmB) (hT : ∀ X : String, bm.contains (.type X) = bmB.contains (.type X)) {kw : List (Str × Value)} {fI : Addr}
    (hC : h.get? C = some (excClassObj nm q C N bs bm hdct sn sub ab col dd k0 k1 k2 k3 k5 newId))
    (hi : W.Looks (model prog w) h (typeLookup (.ref C) "__init__") (some (.ref fI))) (hb : ∀ self, W.Looks (model prog w) h (bindSpecial (.ref fI) self) (.ref fI, [self]))
    (hq : codeAny (model prog w) (A.under (.builtin "type.__call__" ⟨[.ref C], kw⟩)) (.call (.ref fI) ⟨[.ref (h.objs.size + 1)], kw⟩) (W.InitBack (h.objs.size + 1) R)
      ⟨(h.push (W.kdv_tup [])).push (excO C h.objs.size), g, d, t, os⟩) :
    codeAny (model prog w) A (.call (.ref C) ⟨[], kw⟩) R ⟨h, g, d, t, os⟩ := by
  have f1 := tc_lookup
  have f2 := tc_bind (.ref C)
  have hTy : (⟨h, g, d, t, os⟩ : Shared).TypeIs (.ref C) "type" := ⟨_, hC, rfl⟩
  refine codeAny_of_tree ?_
  show wpAny _ _ (callAny (.ref C) _) _ _ _
  repeat (any_goals (first | assumption | with_reducible refine wpAny_loadPart_at hC ?_ | wp_step))
  refine ⟨rfl, ?_⟩
  refine codeAny_call_builtin_at (Code.quiet_builtin _ (by decide +kernel)) entry_typeCall (wpAny_check_type_call_sub hC (type_call_ownK F hT hC hi hb ?_))
  refine codeAny_mono hq fun r s' z => ?_
  rcases r with e | (v | _ | _ | _) <;> exact z
end
end PySem.CfK
namespace Cf
open PySem PySem.Spec PyProof.Rows L2 Evl
/-- the class, its __init__ as a def, also by keyword -/
def XiK (P : Program) (w : World) (K : PySem.W.Frag) (mg : Str → Option Value) (base : Heap) (x : Str) (C : Addr) : Prop :=
  ∃ fI fd, XC K mg x C fI ∧ FnOk P w K mg base CX0 1 fI fd ["self", "value"] (spInit K) ∧ Binds K fd ["self", "value"] [] ∧ ∀ (s : Shared) (a u : Value), BindsTo s fd ⟨[a], [(vVal, u)]⟩ [("self", a), ("value", u)]
theorem XiK.xi {P : Program} {w : World} {K : PySem.W.Frag} {mg : Str → Option Value} {base : Heap} {x : Str} {C : Addr} (h : XiK P w K mg base x C) : Xi P w K mg base x C := by
  obtain ⟨fI, fd, a, b, c, _⟩ := h
  exact ⟨fI, fd, a, b, c⟩
section
variable {X : Cx} {x : Str} {C : Addr} {kws : List Keyword} {tk : TA} {p pos : Pos}
theorem pmk_zK {k : Nat} (T : XiK X.prog X.w X.K X.mg X.base x C) (hr : Room k X.A) (hkw : PK X kws tk) (hg : Gl X x) (hk : 2 ≤ k := by decide)
    (hall : (backToKw pos (keywordEach kws X.env)).all (·.1.isSome) = true := by rfl)
    (hks : (backToKw pos (keywordEach kws X.env)).filterMap (·.1) = [vVal] := by rfl) (hdb : (x == ("__debug__" : Str)) = false := by decide)
    (hpl : ((backTo pos (starEach [] X.env)).any (·.1) || (backToKw pos (keywordEach kws X.env)).any (·.1.isNone)) = false := by rfl) :
    PMk X (.Call (.Name x p) [] kws pos) (fun σ H Q => tk σ H fun zs H1 => ∃ v, zs = [v] ∧ Out C v H1 Q) := by
  obtain ⟨fI, fd, T, F1, hb, hbk⟩ := T
  intro pins s σ H Q I h
  obtain ⟨nm, q, N, bs, bm, sn, sub, ab, col, dd, k0, k1, k2, k3, k5, hC, hbm⟩ := T.o.cls
  refine wpAny_Call_Name_kw (ld_glob I hg T.g ?_ hdb)
  refine PySem.W.callWith_KW0 (h₀ := X.base) I.ok.mod.kin T.o.kC hall (thn (hkw.run pos pins s σ H _ I h) fun ws s1 hh => ?_) hpl
  obtain ⟨zs, H1, I1, rz, v, rfl, hO⟩ := hh
  refine ⟨I1.kIn, ?_⟩
  rw [hks]
  cases rz with
  | @cons _ u _ us rv rn =>
    cases rn
    show wpAny _ _ (call (.ref C) [] [(vVal, u)]) _ _ _
    obtain ⟨hp, g, dr, tk', os⟩ := s1
    have hsz : hp.objs.size ≤ hp.objs.size + 1 := Nat.le_succ _
    have hn : H1 (hp.objs.size + 1) = none := I1.hok.fresh hsz
    have hq : spInit X.K [.ref (hp.objs.size + 1), v] (upd H1 (hp.objs.size + 1) (exo (hp.objs.size + 1) C none)) (fun v' H2 => v' = .non ∧ ∃ (d : Addr) (fs : List (Str × V)), H2 (hp.objs.size + 1) = some (exo (hp.objs.size + 1) C (some d)) ∧ H2 d = some (exd d fs) ∧ H1 d = none ∧ Q (.ref C) (some d) (upd (del H2 (hp.objs.size + 1)) d (.xd fs))) (fun _ _ _ => False) := by
      refine ⟨hp.objs.size + 1, v, C, rfl, T.o, T.no, upd_same, fun dx ndx nea => ⟨rfl, dx, [(vVal, v)], upd_same, by rw [upd_ne nea, upd_same], ?_, ?_⟩⟩
      · rw [upd_ne nea] at ndx
        exact ndx
      · rw [upd_ne nea] at ndx
        refine hO dx _ ndx (fun b o q => ?_) upd_same
        have nb : b ≠ hp.objs.size + 1 := fun z => by rw [z, hn] at q; cases q
        have nd : b ≠ dx := fun z => by rw [z, ndx] at q; cases q
        rw [upd_ne nd, del_ne nb, upd_ne nb, upd_ne nd, upd_ne nb]
        exact q
    have kk : ∀ b o, hp.get? b = some o → ((hp.push (PySem.W.kdv_tup [])).push (PySem.HandSPX.excO C hp.objs.size)).get? b = some o := fun b o e => Heap.get?_push_of_some _ (Heap.get?_push_of_some _ e)
    have hget : ((hp.push (PySem.W.kdv_tup [])).push (PySem.HandSPX.excO C hp.objs.size)).get? (hp.objs.size + 1) = some (PySem.HandSPX.excO C hp.objs.size) := by heap_get
    have I2 : Inv X pins σ (upd H1 (hp.objs.size + 1) (exo (hp.objs.size + 1) C none)) ⟨(hp.push (PySem.W.kdv_tup [])).push (PySem.HandSPX.excO C hp.objs.size), g, dr, tk', os⟩ :=
      I1.laid (t' := tk') (a := hp.objs.size + 1) (o := exo (hp.objs.size + 1) C none) (h' := (hp.push (PySem.W.kdv_tup [])).push (PySem.HandSPX.excO C hp.objs.size)) kk hsz (exo_ok hget)
    refine wpAny_call (PySem.CfK.call_ownK F.excBase_ValueError (fun Y => PySem.HandSPX.refsVE_contains Y bm hbm) (I1.kIn _ _ hC) (PySem.W.looks_findIn I1.kIn T.iC) (fun self => PySem.W.bind_fn I1.kIn self T.tI)
      (codeAny_mono (F1.run _ X.stack _ _ ⟨[Value.ref (hp.objs.size + 1)], [(vVal, u)]⟩ [Value.ref (hp.objs.size + 1), u] [.ref (hp.objs.size + 1), v] _ (fun _ _ _ => False) ((hr.mono (j := 1 + 1) hk).make C [] [(vVal, u)]) (I2.env0.make C [] [(vVal, u)]) (hbk _ _ _) (.cons rfl (.cons rv .nil)) hq) fun r s' hq' => ?_))
    cases r with
    | error er => exact (pass0 : Passes CX0 X _) pins σ _ _ er s' I2 hq'
    | ok fl =>
      cases fl with
      | ret u' =>
        obtain ⟨v', H2, os2, bare2, un2, hok2, rv', ev, d, fs, ea, ed, hd1, q2⟩ := hq'
        subst ev
        obtain ⟨h2, g2, d2, t2, os'⟩ := s'
        exact ⟨rv', mk_end (raises_own T.o.exC T.o.tyC) I1 hsz kk un2 hok2 os2 bare2 ea ed hd1 q2⟩
      | next => exact False.elim hq'
      | brk => exact False.elim hq'
      | cont => exact False.elim hq'
end
end Cf

namespace Cf
open PySem PySem.Spec PyProof.Rows L2 Evl
/-! ## the bag of k75 -/
def bagL (l : Addr) (left t bl : Int) : List (Key × V) := [(.inr "great", .ref l), (.inr "left", .int left), (.inr "turn", .int t), (.inr "blend", .int bl)]
def Bag (H : Hp) (bg : Addr) (n : Nat) : Prop := ∃ (l : Addr) (gs : List Int) (left t bl : Int), H bg = some (.dK (bagL l left t bl)) ∧ H l = some (.lst (gs.map V.int)) ∧ 0 ≤ t ∧ t ≤ n ∧ 0 ≤ bl ∧ bl < 2305843009213693951 ∧ gs.length ≤ 100
theorem Bag.ex {H H' : Hp} {bg : Addr} {n : Nat} (h : Bag H bg n) (e : Ex H H') : Bag H' bg n := by
  obtain ⟨l, gs, left, t, bl, a, b, c⟩ := h
  exact ⟨l, gs, left, t, bl, e _ _ a, e _ _ b, c⟩
theorem Bag.le {H : Hp} {bg : Addr} {n k : Nat} (h : Bag H bg n) (e : n ≤ k) : Bag H bg k := by
  obtain ⟨l, gs, left, t, bl, a, b, c1, c2, c3⟩ := h
  exact ⟨l, gs, left, t, bl, a, b, c1, by omega, c3⟩
def TupK (H H' : Hp) : Prop := ∀ b xs, H b = some (.tup xs) → H' b = some (.tup xs)
theorem TupK.of {H H' : Hp} (e : Ex H H') : TupK H H' := fun b xs h => e _ _ h
theorem TupK.trans {H H1 H2 : Hp} (a : TupK H H1) (b : TupK H1 H2) : TupK H H2 := fun c xs h => b c xs (a c xs h)
theorem TupK.upd {H : Hp} {p : Addr} {o u : HO} (h : H p = some u) (n : ∀ xs, u ≠ .tup xs) : TupK H (upd H p o) := fun b xs q => by
  rw [upd_ne (fun z => by rw [z, h] at q; exact n xs (Option.some.inj q))]
  exact q
def spBag (K : PySem.W.Frag) : Sp := fun vs H Q _ => ∃ (a : Addr) (ns : List Int), vs = [.ref a] ∧ SqL K H a (ns.map V.int) ∧ ns.length ≤ 63 ∧ ∀ bg H', H bg = none → Ex H H' → Bag H' bg 0 → Q (.ref bg) H'
def spBDraw : Sp := fun vs H Q _ => ∃ bg many n, vs = [.ref bg, .int many] ∧ 0 < many ∧ many.natAbs < 2 ^ 200 ∧ n ≤ 1000 ∧ Bag H bg n ∧ ∀ H' v, TupK H H' → Bag H' bg (n + 1) → 0 ≤ v → v < many → Q (.int v) H'
theorem ev_dgetK {σ : L2.St} {H : Hp} {ta : TE} {bg : Addr} {kvs : List (Key × V)} {k : Str} {v : V} (ha : Ev ta σ H (.ref bg)) (h : H bg = some (.dK kvs)) (hv : valV kvs (.inr k) = some v) : Ev (tDGet ta (tC (.str k))) σ H v := fun H1 e Q q =>
  ha H1 e _ fun H2 e2 => ⟨bg, v, rfl, by
    have g := DGet.k (k := .inr k) (e2 _ _ (e _ _ h))
    rw [hv] at g
    exact g, q H2 e2⟩
theorem s_dputK {σ : L2.St} {H : Hp} {ta tv : TE} {D : Ends} {bg : Addr} {kvs : List (Key × V)} {k : Str} {v : V} (hv : Ev tv σ H v) (ho : Ev ta σ H (.ref bg)) (h : H bg = some (.dK kvs)) (hl : kvs.length < 100000) (n : ∀ H1, Ex H H1 → D.nx σ (upd H1 bg (.dK (putK kvs (.inr k) v)))) : sDPut ta (tC (.str k)) tv D σ H :=
  hv H (Ex.refl H) _ fun H1 e1 => ho H1 e1 _ fun H2 e2 => ⟨bg, _, rfl, DPut.k (k := .inr k) (e2 _ _ (e1 _ _ h)) (sz_lt hl), n H2 (e1.trans e2)⟩
theorem q_dputK {σ : L2.St} {H : Hp} {ta tv : TE} {tz : TS} {D : Ends} {bg : Addr} {kvs : List (Key × V)} {k : Str} {v : V} (hv : Ev tv σ H v) (ho : Ev ta σ H (.ref bg)) (h : H bg = some (.dK kvs)) (hl : kvs.length < 100000) (n : ∀ H1, Ex H H1 → tz D σ (upd H1 bg (.dK (putK kvs (.inr k) v)))) : tSeq (sDPut ta (tC (.str k)) tv) tz D σ H :=
  s_dputK (D := { D with nx := tz D }) hv ho h hl n
end Cf
namespace Cf
open PySem PySem.Spec PyProof.Rows L2 Evl
def rAbs_ : List V → Hp → VK → Prop := fun xs H Q => ∃ i, xs = [.int i] ∧ Q (.int (if i < 0 then -i else i)) H
end Cf
namespace Cf
open PySem PySem.Spec PyProof.Rows L2 Evl
/-! ## exceptions made -/
def tMz (C : Addr) (ta : TA) : TE := fun σ H Q => ta σ H fun vs H1 => ∃ v, vs = [v] ∧ Out C v H1 fun cls d H' => ∀ a, H' a = none → Q (.ref a) (upd H' a (exk a cls d))
section
variable {X : Cx} {x : Str} {C : Addr} {e : Expr} {ta : TA} {p pos : Pos} {kws : List Keyword} {tk : TA}
theorem pe_mz {k : Nat} (T : XiK X.prog X.w X.K X.mg X.base x C) (hr : Room k X.A) (ha : PA X [e] ta) (hg : Gl X x) (hk : 2 ≤ k := by decide) (hdb : (x == ("__debug__" : Str)) = false := by decide)
    (he : starEach (e :: []) X.env = (false, eval e X.env) :: starEach [] X.env := by rfl) (hpl : (backTo pos (starEach [] X.env)).any (·.1) = false := by rfl) : PE X (.Call (.Name x p) [e] [] pos) (tMz C ta) :=
  pe_made (pmk_z T.xi hr ha hg hk hdb he hpl)
theorem pe_mzK {k : Nat} (T : XiK X.prog X.w X.K X.mg X.base x C) (hr : Room k X.A) (hkw : PK X kws tk) (hg : Gl X x) (hk : 2 ≤ k := by decide)
    (hall : (backToKw pos (keywordEach kws X.env)).all (·.1.isSome) = true := by rfl)
    (hks : (backToKw pos (keywordEach kws X.env)).filterMap (·.1) = [vVal] := by rfl) (hdb : (x == ("__debug__" : Str)) = false := by decide)
    (hpl : ((backTo pos (starEach [] X.env)).any (·.1) || (backToKw pos (keywordEach kws X.env)).any (·.1.isNone)) = false := by rfl) : PE X (.Call (.Name x p) [] kws pos) (tMz C tk) :=
  pe_made (pmk_zK T hr hkw hg hk hall hks hdb hpl)
end
/-- a new exception of the class C with v -/
def EvX (te : TE) (σ : L2.St) (H : Hp) (C : Addr) (v : V) : Prop := ∀ H1, Ex H H1 → ∀ Q : VK, (∀ p H2, H1 p = none → Ex H1 H2 → ExAt H2 p C v → Q (.ref p) H2) → te σ H1 Q
theorem ev_mz {σ : L2.St} {H : Hp} {te : TE} {C : Addr} {v : V} (h : Ev te σ H v) : EvX (tMz C (tCons te tNil)) σ H C v := fun H1 e Q q => h H1 e _ fun H2 e2 => ⟨v, rfl, fun d H3 nd e3 hd a na => by
  have nda : d ≠ a := fun z => by rw [z, na] at hd; exact nomatch hd
  exact q a _ (fresh_back (e2.trans e3) na) ((e2.trans e3).trans (Ex.new na)) ⟨d, upd_same, by rw [upd_ne nda]; exact hd⟩⟩
/-- (X(v), X(value=v)) -/
def PairAt (H : Hp) (p C : Addr) (v : V) : Prop := ∃ a b, H p = some (.tup [.ref a, .ref b]) ∧ ExAt H a C v ∧ ExAt H b C v
theorem PairAt.ex {H H' : Hp} {p C : Addr} {v : V} (h : PairAt H p C v) (e : Ex H H') : PairAt H' p C v := by
  obtain ⟨a, b, h1, h2, h3⟩ := h
  exact ⟨a, b, e _ _ h1, h2.ex e, h3.ex e⟩
theorem PairAt.bu {H H' : Hp} {p C l : Addr} {v : V} {xs : List V} (h : PairAt H p C v) (hl : H l = some (.lst xs)) (e : Bu l H H') : PairAt H' p C v := by
  obtain ⟨a, b, h1, h2, h3⟩ := h
  exact ⟨a, b, e _ _ (ne_of h1 hl fun z => nomatch z) h1, h2.bu hl e, h3.bu hl e⟩
theorem eu_pair {σ : L2.St} {H : Hp} {ta tb : TE} {C : Addr} {v : V} (ha : EvX ta σ H C v) (hb : EvX tb σ H C v) : ∀ H1, Ex H H1 → ∀ Q : VK, (∀ p H2, H1 p = none → Ex H1 H2 → PairAt H2 p C v → Q (.ref p) H2) → tTup (tCons ta (tCons tb tNil)) σ H1 Q := fun H1 e Q q =>
  ha H1 e _ fun a H2 na e2 h2 => hb H2 (e.trans e2) _ fun b H3 nb e3 h3 => ⟨by show 2 ≤ sizeLine; decide, fun p np => q p _ (fresh_back (e2.trans e3) np) ((e2.trans e3).trans (Ex.new np)) ⟨a, b, upd_same, (h2.ex e3).ex (Ex.new np), h3.ex (Ex.new np)⟩⟩
/-- the list of the pairs so far -/
def Mad (H : Hp) (l : Addr) (cs : List Addr) (v : V) : Prop := ∃ ps : List Addr, H l = some (.lst (ps.map V.ref)) ∧ ps.length = cs.length ∧ ∀ (j : Nat) (c : Addr), cs[j]? = some c → ∃ p, ps[j]? = some p ∧ PairAt H p c v
theorem Mad.ex {H H' : Hp} {l : Addr} {cs : List Addr} {v : V} (h : Mad H l cs v) (e : Ex H H') : Mad H' l cs v := by
  obtain ⟨ps, a, b, c⟩ := h
  refine ⟨ps, e _ _ a, b, fun j cc q => ?_⟩
  obtain ⟨p, p1, p2⟩ := c j cc q
  exact ⟨p, p1, p2.ex e⟩
theorem q_mad {K : PySem.W.Frag} {σ : L2.St} {H : Hp} {l C : Addr} {cs : List Addr} {v : V} {i : Nat} {ta tb : TE} {tz : TS} {D : Ends} (h : Mad H l cs v) (hi : σ[i]? = some (some (.ref l))) (hd : cs.length < 100000) (ha : EvX ta σ H C v) (hb : EvX tb σ H C v)
    (k : ∀ H', Bu l H H' → Mad H' l (cs ++ [C]) v → tz D σ H') : tSeq (tDrop (tBM K "list" rAppend (tVar i) (tCons (tTup (tCons ta (tCons tb tNil))) tNil))) tz D σ H := by
  obtain ⟨ps, h1, h2, h3⟩ := h
  refine drop_raw (app_raw (K := K) hi h1 ?_)
  refine eu_pair ha hb H (Ex.refl H) _ fun p H1 np e1 hp => ⟨l, ps.map V.ref, .ref p, rfl, rfl, e1 _ _ h1, sz_lt (by rw [List.length_map]; omega), ?_⟩
  have hl1 := e1 _ _ h1
  have bu : Bu l H (upd H1 l (.lst (ps.map V.ref ++ [.ref p]))) := fun c o nc q => by rw [upd_ne nc]; exact e1 _ _ q
  have bu1 : Bu l H1 (upd H1 l (.lst (ps.map V.ref ++ [.ref p]))) := fun c o nc q => by rw [upd_ne nc]; exact q
  refine k _ bu ⟨ps ++ [p], by rw [upd_same, List.map_append]; rfl, by rw [List.length_append, List.length_append, h2]; rfl, fun j cc q => ?_⟩
  by_cases hj : j < cs.length
  · rw [List.getElem?_append_left hj] at q
    obtain ⟨p2, q1, q2⟩ := h3 j cc q
    exact ⟨p2, by rw [List.getElem?_append_left (by omega)]; exact q1, q2.bu h1 bu⟩
  · rw [List.getElem?_append_right (by omega)] at q
    have hj2 : j - cs.length = 0 := by
      have := (List.getElem?_eq_some_iff.mp q).1
      simp at this
      omega
    rw [hj2] at q
    have q : C = cc := Option.some.inj q
    subst q
    exact ⟨p, by rw [List.getElem?_append_right (by omega), h2, hj2]; rfl, hp.bu hl1 bu1⟩
def spMade (cs : List Addr) : Sp := fun vs H Q _ => ∃ v, vs = [v] ∧ ∀ l H', H l = none → Ex H H' → Mad H' l cs v → Q (.ref l) H'
end Cf

namespace Cf
open PySem PySem.Spec PyProof.Rows L2 Evl
def ExE (H : Hp) (a C : Addr) : Prop := (∃ v, ExAt H a C v) ∨ H a = some (ExO (.ref C) a)
theorem ExE.ex {H H' : Hp} {a C : Addr} (h : ExE H a C) (e : Ex H H') : ExE H' a C := by
  rcases h with ⟨v, h⟩ | h
  · exact .inl ⟨v, h.ex e⟩
  · exact .inr (e _ _ h)
def rIsE2 (K : PySem.W.Frag) : List V → Hp → VK → Prop := fun xs H Q => ∃ (a D : Addr) (c : V) (cv : Value) (b : Bool), xs = [.ref a, c] ∧ ExE H a D ∧ ExcC K D ∧ (∀ u, RelV c u → u = cv) ∧ PySem.W.kitOne K (.ref D) cv = some b ∧ Q (.bl b) H
theorem call_isE2 {X : Cx} : CallR X (.builtin "isinstance") (rIsE2 X.K) := by
  intro pins s σ H xs us Q I r h
  obtain ⟨a, D, c, cv, b, rfl, hE, C, hcv, e, q⟩ := h
  rcases hE with ⟨v, dd, ea, ed⟩ | ea
  · exact call_isK pins s σ H _ us Q I r ⟨a, D, dd, _, c, cv, b, rfl, ea, ed, C, hcv, e, q⟩
  · cases r with
    | cons rx rr =>
      cases rr with
      | cons rt rr =>
        cases rr
        cases rx
        have ec := hcv _ rt
        subst ec
        obtain ⟨⟨oe, vs, ha, hz, hd, _⟩, _, _⟩ := I.hok a _ ea
        have J : PySem.W.InstAt s.heap a oe D none := ⟨ha, hz.1, by unfold PySem.W.notCls; rw [hd] <;> rfl, by rw [hz.2]; trivial⟩
        have hcl : (PySem.W.clsIn X.K D).isSome = true := by
          have := C.hd
          unfold PySem.W.hasDictIn at this
          cases q2 : PySem.W.clsIn X.K D with
          | none => rw [q2] at this; exact absurd this (by decide)
          | some _ => rfl
        exact PySem.W.kia_one (PySem.W.kitx_exc hcl C.hg C.hk C.hs C.ha C.hn C.ht C.hm) I.kIn J e (fun z => nomatch z) fun tk => ⟨.bl b, H, I.kept (t' := tk) fun _ _ z => z, rfl, q⟩
section
variable {K : PySem.W.Frag} {σ : L2.St} {H : Hp} {ta : TE} {a C c : Addr} {v : V} {b : Bool}
theorem ev_isE2 (ha : Ev ta σ H (.ref a)) (h : ExE H a C) (e : ExcC K C) (k : PySem.W.kitOne K (.ref C) (.ref c) = some b) : Ev (tCB (rIsE2 K) (tCons ta (tCons (tC (.ref c)) tNil))) σ H (.bl b) := ev_cb (ea_cons ha (ea_cons ev_c ea_nil)) fun H1 e1 Q1 q1 =>
  ⟨a, C, .ref c, .ref c, b, rfl, h.ex e1, e, fun u r => r, k, q1 H1 (Ex.refl H1)⟩
theorem ev_isE2T {n : String} (ha : Ev ta σ H (.ref a)) (h : ExE H a C) (e : ExcC K C) (k : PySem.W.kitOne K (.ref C) (.type n) = some b) : Ev (tCB (rIsE2 K) (tCons ta (tCons (tC (.ty n)) tNil))) σ H (.bl b) := ev_cb (ea_cons ha (ea_cons ev_c ea_nil)) fun H1 e1 Q1 q1 =>
  ⟨a, C, .ty n, .type n, b, rfl, h.ex e1, e, fun u r => r, k, q1 H1 (Ex.refl H1)⟩
end
def ind9 (j : Nat) : List V := (List.range 9).map fun i => V.bl (decide (V.int (i : Nat) = V.int (j : Nat)))
/-- the nine classes: what is known of them -/
structure Er10 (K : PySem.W.Frag) (mg : Str → Option Value) (c0 c1 c2 c3 c4 c5 c6 c7 c8 cE : Addr) : Prop where
  g0 : mg "InvalidModel" = some (.ref c0)
  g1 : mg "InvalidType" = some (.ref c1)
  g2 : mg "InvalidVariables" = some (.ref c2)
  g3 : mg "InvalidExpression" = some (.ref c3)
  g4 : mg "InvalidValues" = some (.ref c4)
  g5 : mg "InvalidNumber" = some (.ref c5)
  g6 : mg "NotAdmitted" = some (.ref c6)
  g7 : mg "NothingToUndo" = some (.ref c7)
  g8 : mg "Unreadable" = some (.ref c8)
  gE : mg "CastError" = some (.ref cE)
  f0 : IsF K c0 c0 c1 c2 c3 c4 c5 c6 c7 c8 true false false false false false false false false
  f1 : IsF K c1 c0 c1 c2 c3 c4 c5 c6 c7 c8 false true false false false false false false false
  f2 : IsF K c2 c0 c1 c2 c3 c4 c5 c6 c7 c8 false false true false false false false false false
  f3 : IsF K c3 c0 c1 c2 c3 c4 c5 c6 c7 c8 false false false true false false false false false
  f4 : IsF K c4 c0 c1 c2 c3 c4 c5 c6 c7 c8 false false false false true false false false false
  f5 : IsF K c5 c0 c1 c2 c3 c4 c5 c6 c7 c8 false false false false false true false false false
  f6 : IsF K c6 c0 c1 c2 c3 c4 c5 c6 c7 c8 false false false false false false true false false
  f7 : IsF K c7 c0 c1 c2 c3 c4 c5 c6 c7 c8 false false false false false false false true false
  f8 : IsF K c8 c0 c1 c2 c3 c4 c5 c6 c7 c8 false false false false false false false false true
  fE : IsF K cE c0 c1 c2 c3 c4 c5 c6 c7 c8 false false false false false false false false false
  e0 : PySem.W.kitOne K (.ref c0) (.ref cE) = some true
  e1 : PySem.W.kitOne K (.ref c1) (.ref cE) = some true
  e2 : PySem.W.kitOne K (.ref c2) (.ref cE) = some true
  e3 : PySem.W.kitOne K (.ref c3) (.ref cE) = some true
  e4 : PySem.W.kitOne K (.ref c4) (.ref cE) = some true
  e5 : PySem.W.kitOne K (.ref c5) (.ref cE) = some true
  e6 : PySem.W.kitOne K (.ref c6) (.ref cE) = some true
  e7 : PySem.W.kitOne K (.ref c7) (.ref cE) = some true
  e8 : PySem.W.kitOne K (.ref c8) (.ref cE) = some true
def spFlags (K : PySem.W.Frag) (c0 c1 c2 c3 c4 c5 c6 c7 c8 : Addr) : Sp := fun vs H Q _ => ∃ a C b0 b1 b2 b3 b4 b5 b6 b7 b8, vs = [.ref a] ∧ ExE H a C ∧ IsF K C c0 c1 c2 c3 c4 c5 c6 c7 c8 b0 b1 b2 b3 b4 b5 b6 b7 b8 ∧
  ∀ l H', H l = none → Ex H H' → H' l = some (.lst [.bl b0, .bl b1, .bl b2, .bl b3, .bl b4, .bl b5, .bl b6, .bl b7, .bl b8]) → Q (.ref l) H'
/-! ### repr of any small datum -/
def rReprA (K : PySem.W.Frag) : List V → Hp → VK → Prop := fun xs H Q => rRepr K xs H Q ∨ (xs = [.non] ∧ Q (.str "None") H) ∨ (∃ i, xs = [.int i] ∧ i.natAbs.log2 < 1920 ∧ Q (.str (toString i)) H) ∨ ∃ x, xs = [.str x] ∧ (reprText x).length ≤ sizeLine ∧ Q (.str (reprText x)) H
theorem call_reprA {X : Cx} (hG : X.A.guards = some []) (hu : X.A.units + 64 < cLine) : CallR X (.builtin "repr") (rReprA X.K) := by
  intro pins s σ H xs us Q I r h
  rcases h with h | ⟨rfl, q⟩ | ⟨i, rfl, hi, q⟩ | ⟨x, rfl, hx, q⟩
  · exact call_repr hG hu pins s σ H xs us Q I r h
  · obtain ⟨u, rfl, rx⟩ := vals1 r
    obtain rfl : u = Value.none := rx
    exact PySem.P.repr_of_none ⟨.str "None", H, I.tok _, ⟨_, rfl⟩, q⟩
  · obtain ⟨u, rfl, rx⟩ := vals1 r
    obtain ⟨t, rfl⟩ : ∃ t, u = Value.int i t := rx
    exact PySem.P.repr_of_int hi ⟨.str (toString i), H, I.tok _, ⟨_, rfl⟩, q⟩
  · obtain ⟨u, rfl, rx⟩ := vals1 r
    obtain ⟨t, rfl⟩ : ∃ t, u = Value.str x t := rx
    exact PySem.P.repr_of_str ⟨.str (reprText x), H, I.tok _, ⟨_, rfl⟩, q⟩ hx
def Rb (K : PySem.W.Frag) (H : Hp) (v : V) (t : Str) : Prop := (∃ a d, v = .ref a ∧ Dp K H (.ref a) d ∧ Sm d ∧ szD d ≤ 800 ∧ d.depth ≤ 60 ∧ t = d.shown) ∨ (v = .non ∧ t = "None") ∨ (∃ i, v = .int i ∧ i.natAbs.log2 < 1920 ∧ t = toString i) ∨ ∃ x, v = .str x ∧ (reprText x).length ≤ sizeLine ∧ t = reprText x
theorem Rb.ex {K : PySem.W.Frag} {H H' : Hp} {v : V} {t : Str} (h : Rb K H v t) (e : Ex H H') : Rb K H' v t := by
  rcases h with ⟨a, d, h1, h2, h3⟩ | h
  · exact .inl ⟨a, d, h1, dp_ex e d _ h2, h3⟩
  · exact .inr h
theorem ev_reprA {K : PySem.W.Frag} {σ : L2.St} {H : Hp} {ta : TE} {v : V} {t : Str} (ha : Ev ta σ H v) (h : Rb K H v t) : Ev (tCB (rReprA K) (tCons ta tNil)) σ H (.str t) := ev_cb (ea_cons ha ea_nil) fun H1 e1 Q q => by
  rcases h.ex e1 with ⟨a, d, rfl, h2, h3, h4, h5, rfl⟩ | ⟨rfl, rfl⟩ | ⟨i, rfl, hi, rfl⟩ | ⟨x, rfl, hx, rfl⟩
  · exact .inl ⟨a, d, rfl, h2, (sm_all d h3).1, (sm_all d h3).2.1, sm_len h3 h4, h5, q H1 (Ex.refl H1)⟩
  · exact .inr (.inl ⟨rfl, q H1 (Ex.refl H1)⟩)
  · exact .inr (.inr (.inl ⟨i, rfl, hi, q H1 (Ex.refl H1)⟩))
  · exact .inr (.inr (.inr ⟨x, rfl, hx, q H1 (Ex.refl H1)⟩))
theorem bdraw_at {σ : L2.St} {H : Hp} {ta : TA} {bg : Addr} {many : Int} {n : Nat} {E : XK} {Q : VK} (h : EvA ta σ H [.ref bg, .int many]) (m0 : 0 < many) (m1 : many.natAbs < 2 ^ 200) (hn : n ≤ 1000) (g : Bag H bg n)
    (k : ∀ H' v, TupK H H' → Bag H' bg (n + 1) → 0 ≤ v → v < many → Q (.int v) H') : tCall spBDraw [] E ta σ H Q :=
  h H (Ex.refl H) _ fun H1 e1 => ⟨bg, many, n, rfl, m0, m1, hn, g.ex e1, fun H' v t b v0 v1 => k H' v ((TupK.of e1).trans t) b v0 v1⟩
/-- lists of bools compared -/
theorem ev_neB {K : PySem.W.Frag} {σ : L2.St} {H : Hp} {ta tb : TE} {bs : List Bool} (ha : EvL ta σ H (bs.map V.bl)) (hb : EvL tb σ H (bs.map V.bl)) (hs : SeqAt.shaped (.list (bs.map PyData.bool)) = true) (he : PyData.eqv (.list (bs.map PyData.bool)) (.list (bs.map PyData.bool)) = true) : Ev (tOp (rNeD K) ta tb) σ H (.bl false) := by
  have dp : ∀ (bs : List Bool) (H1 : Hp), DpAll K H1 (bs.map V.bl) (bs.map PyData.bool) := fun bs H1 => by
    induction bs with
    | nil => exact .nil
    | cons b bs ih => exact .cons (.bl b) ih
  exact ev_neL (ds := bs.map PyData.bool) ha hb (fun H1 _ => dp bs H1) (fun H1 _ => dp bs H1) hs he
theorem ev_eqB {K : PySem.W.Frag} {σ : L2.St} {H : Hp} {ta tb : TE} {bs : List Bool} (ha : EvL ta σ H (bs.map V.bl)) (hb : EvL tb σ H (bs.map V.bl)) (hs : SeqAt.shaped (.list (bs.map PyData.bool)) = true) (he : PyData.eqv (.list (bs.map PyData.bool)) (.list (bs.map PyData.bool)) = true) : Ev (tOp (rEqD K) ta tb) σ H (.bl true) := by
  have dp : ∀ (bs : List Bool) (H1 : Hp), DpAll K H1 (bs.map V.bl) (bs.map PyData.bool) := fun bs H1 => by
    induction bs with
    | nil => exact .nil
    | cons b bs ih => exact .cons (.bl b) ih
  exact ev_opLL ha hb fun p q H1 hp hq e => fun H2 e2 Q k => ⟨.list (bs.map PyData.bool), .list (bs.map PyData.bool), .lst (sq_of (e2 _ _ hp)) (dp bs H2), .lst (sq_of (e2 _ _ hq)) (dp bs H2), hs, hs, by rw [he]; exact k H2 (Ex.refl H2)⟩
end Cf

namespace Cf
open PySem PySem.Spec PyProof.Rows L2 Evl
/-! ## expressions and conditions, plainly -/
inductive Bo where
  | add | sub | mul
  deriving DecidableEq
def Bo.s : Bo → Str
  | .add => "add" | .sub => "sub" | .mul => "mul"
inductive Nd where
  | var (x : Str)
  | lit (n : Int) (s : Str)
  | cast (k : Kd) (e : Nd)
  | neg (e : Nd)
  | bin (o : Bo) (e f : Nd)
  | sh (left : Bool) (e : Nd) (k : Int)
  | ite (c e f : Nd)
  | cmp (less : Bool) (e f : Nd)
  | nt (c : Nd)
  | lg (and_ : Bool) (c d : Nd)
def shS (b : Bool) : Str := if b then "shl" else "shr"
def cmpS (b : Bool) : Str := if b then "less" else "most"
def lgS (b : Bool) : Str := if b then "and" else "or"
def Nd.word : Nd → Str
  | .var _ => "var" | .lit _ _ => "lit" | .cast _ _ => "cast" | .neg _ => "neg" | .bin o _ _ => o.s | .sh b _ _ => shS b | .ite _ _ _ => "if" | .cmp b _ _ => cmpS b | .nt _ => "not" | .lg b _ _ => lgS b
def Nd.parts : Nd → List Nd
  | .var _ => [] | .lit _ _ => [] | .cast _ e => [e] | .neg e => [e] | .bin _ e f => [e, f] | .sh _ e _ => [e] | .ite c e f => [c, e, f] | .cmp _ e f => [e, f] | .nt c => [c] | .lg _ c d => [c, d]
def Nd.size : Nd → Nat
  | .var _ => 1 | .lit _ _ => 1 | .cast _ e => 1 + e.size | .neg e => 1 + e.size | .bin _ e f => 1 + e.size + f.size | .sh _ e _ => 1 + e.size | .ite c e f => 1 + c.size + e.size + f.size | .cmp _ e f => 1 + e.size + f.size | .nt c => 1 + c.size | .lg _ c d => 1 + c.size + d.size
def Nd.leaves : Nd → Nat
  | .var _ => 1 | .lit _ _ => 1 | .cast _ e => e.leaves | .neg e => e.leaves | .bin _ e f => e.leaves + f.leaves | .sh _ e _ => e.leaves | .ite c e f => c.leaves + e.leaves + f.leaves | .cmp _ e f => e.leaves + f.leaves | .nt c => c.leaves | .lg _ c d => c.leaves + d.leaves
/-- an expression, not a condition -/
def Nd.isE : Nd → Bool
  | .cmp _ _ _ => false | .nt _ => false | .lg _ _ _ => false | _ => true
/-- it stands at p, tuples of tuples -/
def TreeAt (H : Hp) : Addr → Nd → Prop
  | p, .var x => H p = some (.tup [.str "var", .str x])
  | p, .lit n s => H p = some (.tup [.str "lit", .int n, .str s])
  | p, .cast k e => ∃ q, H p = some (.tup [.str "cast", k.v, .ref q]) ∧ TreeAt H q e
  | p, .neg e => ∃ q, H p = some (.tup [.str "neg", .ref q]) ∧ TreeAt H q e
  | p, .bin o e f => ∃ q r, H p = some (.tup [.str o.s, .ref q, .ref r]) ∧ TreeAt H q e ∧ TreeAt H r f
  | p, .sh b e k => ∃ q, H p = some (.tup [.str (shS b), .ref q, .int k]) ∧ TreeAt H q e
  | p, .ite c e f => ∃ o q r, H p = some (.tup [.str "if", .ref o, .ref q, .ref r]) ∧ TreeAt H o c ∧ TreeAt H q e ∧ TreeAt H r f
  | p, .cmp b e f => ∃ q r, H p = some (.tup [.str (cmpS b), .ref q, .ref r]) ∧ TreeAt H q e ∧ TreeAt H r f
  | p, .nt c => ∃ q, H p = some (.tup [.str "not", .ref q]) ∧ TreeAt H q c
  | p, .lg b c d => ∃ q r, H p = some (.tup [.str (lgS b), .ref q, .ref r]) ∧ TreeAt H q c ∧ TreeAt H r d
theorem TreeAt.tk {H H' : Hp} (e : TupK H H') : ∀ {nd : Nd} {p : Addr}, TreeAt H p nd → TreeAt H' p nd
  | .var _, _, h => e _ _ h
  | .lit _ _, _, h => e _ _ h
  | .cast _ _, _, ⟨q, h, t⟩ => ⟨q, e _ _ h, t.tk e⟩
  | .neg _, _, ⟨q, h, t⟩ => ⟨q, e _ _ h, t.tk e⟩
  | .bin _ _ _, _, ⟨q, r, h, t, u⟩ => ⟨q, r, e _ _ h, t.tk e, u.tk e⟩
  | .sh _ _ _, _, ⟨q, h, t⟩ => ⟨q, e _ _ h, t.tk e⟩
  | .ite _ _ _, _, ⟨o, q, r, h, s, t, u⟩ => ⟨o, q, r, e _ _ h, s.tk e, t.tk e, u.tk e⟩
  | .cmp _ _ _, _, ⟨q, r, h, t, u⟩ => ⟨q, r, e _ _ h, t.tk e, u.tk e⟩
  | .nt _, _, ⟨q, h, t⟩ => ⟨q, e _ _ h, t.tk e⟩
  | .lg _ _ _, _, ⟨q, r, h, t, u⟩ => ⟨q, r, e _ _ h, t.tk e, u.tk e⟩
theorem TreeAt.ex {H H' : Hp} {nd : Nd} {p : Addr} (h : TreeAt H p nd) (e : Ex H H') : TreeAt H' p nd := h.tk (TupK.of e)
theorem TupK.bu {H H' : Hp} {r : Addr} {n : Nat} (e : Bu r H H') (g : Rng H r n) : TupK H H' := fun b xs h => e _ _ (g.ne_tup h) h
/-- its datum -/
def Nd.dat : Nd → PyData
  | .var x => .tuple [.str "var", .str x]
  | .lit n s => .tuple [.str "lit", .int n, .str s]
  | .cast k e => .tuple [.str "cast", .str k.s, e.dat]
  | .neg e => .tuple [.str "neg", e.dat]
  | .bin o e f => .tuple [.str o.s, e.dat, f.dat]
  | .sh b e k => .tuple [.str (shS b), e.dat, .int k]
  | .ite c e f => .tuple [.str "if", c.dat, e.dat, f.dat]
  | .cmp b e f => .tuple [.str (cmpS b), e.dat, f.dat]
  | .nt c => .tuple [.str "not", c.dat]
  | .lg b c d => .tuple [.str (lgS b), c.dat, d.dat]
theorem TreeAt.dp {K : PySem.W.Frag} {H : Hp} : ∀ {nd : Nd} {p : Addr}, TreeAt H p nd → Dp K H (.ref p) nd.dat
  | .var _, _, h => .tup (st_of h) (.cons (.str _) (.cons (.str _) .nil))
  | .lit _ _, _, h => .tup (st_of h) (.cons (.str _) (.cons (.int _) (.cons (.str _) .nil)))
  | .cast _ _, _, ⟨q, h, t⟩ => .tup (st_of h) (.cons (.str _) (.cons (.str _) (.cons t.dp .nil)))
  | .neg _, _, ⟨q, h, t⟩ => .tup (st_of h) (.cons (.str _) (.cons t.dp .nil))
  | .bin _ _ _, _, ⟨q, r, h, t, u⟩ => .tup (st_of h) (.cons (.str _) (.cons t.dp (.cons u.dp .nil)))
  | .sh _ _ _, _, ⟨q, h, t⟩ => .tup (st_of h) (.cons (.str _) (.cons t.dp (.cons (.int _) .nil)))
  | .ite _ _ _, _, ⟨o, q, r, h, s, t, u⟩ => .tup (st_of h) (.cons (.str _) (.cons s.dp (.cons t.dp (.cons u.dp .nil))))
  | .cmp _ _ _, _, ⟨q, r, h, t, u⟩ => .tup (st_of h) (.cons (.str _) (.cons t.dp (.cons u.dp .nil)))
  | .nt _, _, ⟨q, h, t⟩ => .tup (st_of h) (.cons (.str _) (.cons t.dp .nil))
  | .lg _ _ _, _, ⟨q, r, h, t, u⟩ => .tup (st_of h) (.cons (.str _) (.cons t.dp (.cons u.dp .nil)))
/-- the parts stand at these places -/
def PartsAt (H : Hp) : List Addr → List Nd → Prop
  | [], [] => True
  | q :: qs, e :: es => TreeAt H q e ∧ PartsAt H qs es
  | _, _ => False
theorem PartsAt.tk {H H' : Hp} (e : TupK H H') : ∀ {qs : List Addr} {es : List Nd}, PartsAt H qs es → PartsAt H' qs es
  | [], [], _ => trivial
  | _ :: _, _ :: _, h => ⟨h.1.tk e, PartsAt.tk e h.2⟩
  | [], _ :: _, h => h.elim
  | _ :: _, [], h => h.elim
end Cf
namespace Cf
open PySem PySem.Spec PyProof.Rows L2 Evl
/-- the node's tuple: its word, the items behind it, and where its parts stand -/
theorem TreeAt.head {H : Hp} : ∀ {nd : Nd} {p : Addr}, TreeAt H p nd → ∃ rest, H p = some (.tup (.str nd.word :: rest))
  | .var _, _, h => ⟨_, h⟩
  | .lit _ _, _, h => ⟨_, h⟩
  | .cast _ _, _, ⟨_, h, _⟩ => ⟨_, h⟩
  | .neg _, _, ⟨_, h, _⟩ => ⟨_, h⟩
  | .bin _ _ _, _, ⟨_, _, h, _⟩ => ⟨_, h⟩
  | .sh _ _ _, _, ⟨_, h, _⟩ => ⟨_, h⟩
  | .ite _ _ _, _, ⟨_, _, _, h, _⟩ => ⟨_, h⟩
  | .cmp _ _ _, _, ⟨_, _, h, _⟩ => ⟨_, h⟩
  | .nt _, _, ⟨_, h, _⟩ => ⟨_, h⟩
  | .lg _ _ _, _, ⟨_, _, h, _⟩ => ⟨_, h⟩
/-- the law's way to the parts: none; the item at 1 or 2; all behind the word -/
theorem TreeAt.way {H : Hp} : ∀ {nd : Nd} {p : Addr}, TreeAt H p nd →
    (inV (.str nd.word) [.str "var", .str "lit"] = true ∧ nd.parts = []) ∨
    (inV (.str nd.word) [.str "var", .str "lit"] = false ∧ inV (.str nd.word) [.str "cast", .str "shl", .str "shr"] = true ∧ ∃ xs q e, H p = some (.tup xs) ∧ xs[(if nd.word = "cast" then 1 else 0) + 1]? = some (.ref q) ∧ nd.parts = [e] ∧ TreeAt H q e) ∨
    (inV (.str nd.word) [.str "var", .str "lit"] = false ∧ inV (.str nd.word) [.str "cast", .str "shl", .str "shr"] = false ∧ ∃ qs, H p = some (.tup (.str nd.word :: qs.map V.ref)) ∧ (cutV (.str nd.word :: qs.map V.ref) (some 1) none = qs.map V.ref ∧ HT.sIx (V.str nd.word :: qs.map V.ref).length 0 (some 1) ≠ 0) ∧ PartsAt H qs nd.parts)
  | .var _, _, _ => .inl ⟨by rfl, rfl⟩
  | .lit _ _, _, _ => .inl ⟨by rfl, rfl⟩
  | .cast _ e, _, ⟨q, h, t⟩ => .inr (.inl ⟨by rfl, by rfl, _, q, e, h, rfl, rfl, t⟩)
  | .neg _, _, ⟨q, h, t⟩ => .inr (.inr ⟨by rfl, by rfl, [q], h, ⟨rfl, by simp [HT.sIx]⟩, t, trivial⟩)
  | .bin o _ _, _, ⟨q, r, h, t, u⟩ => .inr (.inr ⟨by cases o <;> rfl, by cases o <;> rfl, [q, r], h, ⟨rfl, by simp [HT.sIx]⟩, t, u, trivial⟩)
  | .sh b e _, _, ⟨q, h, t⟩ => .inr (.inl ⟨by cases b <;> rfl, by cases b <;> rfl, _, q, e, h, by cases b <;> rfl, rfl, t⟩)
  | .ite _ _ _, _, ⟨o, q, r, h, s, t, u⟩ => .inr (.inr ⟨by rfl, by rfl, [o, q, r], h, ⟨rfl, by simp [HT.sIx]⟩, s, t, u, trivial⟩)
  | .cmp b _ _, _, ⟨q, r, h, t, u⟩ => .inr (.inr ⟨by cases b <;> rfl, by cases b <;> rfl, [q, r], h, ⟨rfl, by simp [HT.sIx]⟩, t, u, trivial⟩)
  | .nt _, _, ⟨q, h, t⟩ => .inr (.inr ⟨by rfl, by rfl, [q], h, ⟨rfl, by simp [HT.sIx]⟩, t, trivial⟩)
  | .lg b _ _, _, ⟨q, r, h, t, u⟩ => .inr (.inr ⟨by cases b <;> rfl, by cases b <;> rfl, [q, r], h, ⟨rfl, by simp [HT.sIx]⟩, t, u, trivial⟩)
def spParts : Sp := fun vs H Q _ => ∃ p nd, vs = [.ref p] ∧ TreeAt H p nd ∧ ∀ l qs H', H l = none → Ex H H' → H' l = some (.lst (qs.map V.ref)) → PartsAt H' qs nd.parts → Q (.ref l) H'
end Cf
namespace Cf
open PySem PySem.Spec PyProof.Rows L2 Evl
/-! ## a def that calls itself: a promise for each depth -/
section
variable {P : Program} {w : World} {K : PySem.W.Frag} {mg : Str → Option Value} {base : Heap} {CX : CXT} {f : Addr} {fd : FuncData} {ps : List Str}
theorem FnG.never {k : Nat} {sp : Sp} (h : ∀ vs H Q E, ¬ sp vs H Q E) : FnG P w K mg base CX k f fd ps sp :=
  ⟨fun vs H Q E q => (h _ _ _ _ q).elim, fun A outer s H args us vs Q E _ _ _ _ _ q => (h _ _ _ _ q).elim⟩
theorem rec_ok {sp : Nat → Sp} {c : Nat} (h0 : ∀ vs H Q E, ¬ sp 0 vs H Q E) (hs : ∀ d, FnG P w K mg base CX (c + d) f fd ps (sp d) → FnG P w K mg base CX (c + d + 1) f fd ps (sp (d + 1))) : ∀ d, FnG P w K mg base CX (c + d) f fd ps (sp d)
  | 0 => FnG.never h0
  | d + 1 => hs d (rec_ok h0 hs d)
end
end Cf
namespace Cf
open PySem PySem.Spec PyProof.Rows L2 Evl
/-! ## variables -/
structure Row where
  name : Str
  kind : Kd
  low : Int
  high : Int
def Row.vs (w : Row) : List V := [.str w.name, w.kind.v, .int w.low, .int w.high]
def Row.Fit (w : Row) : Prop := w.low ≤ w.high ∧ w.low.natAbs < 2 ^ 136 ∧ w.high.natAbs < 2 ^ 136
def VarsAt (H : Hp) (l : Addr) (rows : List Row) : Prop := ∃ ps : List Addr, H l = some (.lst (ps.map V.ref)) ∧ ps.length = rows.length ∧ ∀ (j : Nat) (w : Row), rows[j]? = some w → ∃ p, ps[j]? = some p ∧ H p = some (.tup w.vs)
theorem VarsAt.ex {H H' : Hp} {l : Addr} {rows : List Row} (h : VarsAt H l rows) (e : Ex H H') : VarsAt H' l rows := by
  obtain ⟨ps, a, b, c⟩ := h
  refine ⟨ps, e _ _ a, b, fun j w q => ?_⟩
  obtain ⟨p, p1, p2⟩ := c j w q
  exact ⟨p, p1, e _ _ p2⟩
theorem VarsAt.bu {H H' : Hp} {l r : Addr} {n : Nat} {rows : List Row} (h : VarsAt H l rows) (nr : l ≠ r) (g : Rng H r n) (e : Bu r H H') : VarsAt H' l rows := by
  obtain ⟨ps, a, b, c⟩ := h
  refine ⟨ps, e _ _ nr a, b, fun j w q => ?_⟩
  obtain ⟨p, p1, p2⟩ := c j w q
  exact ⟨p, p1, e _ _ (g.ne_tup p2) p2⟩
theorem VarsAt.add {H : Hp} {l p : Addr} {rows : List Row} {w : Row} {ps : List Addr} (h : VarsAt H l rows) (hl : H l = some (.lst (ps.map V.ref))) (hp : H p = some (.tup w.vs)) : VarsAt (upd H l (.lst (ps.map V.ref ++ [.ref p]))) l (rows ++ [w]) := by
  obtain ⟨qs, a, b, c⟩ := h
  have e : qs = ps := by
    rw [a] at hl
    have h1 := HO.lst.inj (Option.some.inj hl)
    have inj : ∀ {xs ys : List Addr}, xs.map V.ref = ys.map V.ref → xs = ys := by
      intro xs
      induction xs with
      | nil => intro ys h; cases ys with
        | nil => rfl
        | cons y ys => exact nomatch h
      | cons x xs ih => intro ys h; cases ys with
        | nil => exact nomatch h
        | cons y ys =>
          have h1 := List.cons.inj h
          rw [V.ref.inj h1.1, ih h1.2]
    exact inj h1
  subst e
  have nt : ∀ {q : Addr} {xs : List V}, H q = some (.tup xs) → q ≠ l := fun h => ne_of h hl fun z => nomatch z
  refine ⟨qs ++ [p], by rw [upd_same, List.map_append]; rfl, by rw [List.length_append, List.length_append, b]; rfl, fun j w2 q => ?_⟩
  by_cases hj : j < rows.length
  · rw [List.getElem?_append_left hj] at q
    obtain ⟨p2, q1, q2⟩ := c j w2 q
    exact ⟨p2, by rw [List.getElem?_append_left (by omega)]; exact q1, by rw [upd_ne (nt q2)]; exact q2⟩
  · rw [List.getElem?_append_right (by omega)] at q
    have hj2 : j - rows.length = 0 := by
      have := (List.getElem?_eq_some_iff.mp q).1
      simp at this
      omega
    rw [hj2] at q
    have q : w = w2 := Option.some.inj q
    subst q
    exact ⟨p, by rw [List.getElem?_append_right (by omega), b, hj2]; rfl, by rw [upd_ne (nt hp)]; exact hp⟩
def names8 : List Str := ["x", "if", "u", "lit", "abcdefgh", "add", "ul", "less"]
def spGiven : Sp := fun vs H Q _ => ∃ r many top n, vs = [.ref r, .int (many : Nat), .int top] ∧ many ≤ 8 ∧ 0 ≤ top ∧ top < 2 ^ 120 ∧ n < 2 ^ 40 ∧ Rng H r n ∧
  ∀ l rows H', Bu r H H' → Rng H' r (n + 40) → H l = none → l ≠ r → VarsAt H' l rows → rows.map Row.name = names8.take many → (∀ w ∈ rows, w.Fit) → Q (.ref l) H'
end Cf

namespace Cf
open PySem PySem.Spec PyProof.Rows L2 Evl
/-! ## well formed expressions, their variables -/
def sufs : List Str := ["", "u", "l", "ul", "w", "uw"]
def Nd.wf : Nd → Prop
  | .var _ => True
  | .lit n s => 0 ≤ n ∧ n < 2 ^ 136 ∧ s ∈ sufs
  | .cast _ e => e.isE = true ∧ e.wf
  | .neg e => e.isE = true ∧ e.wf
  | .bin _ e f => e.isE = true ∧ f.isE = true ∧ e.wf ∧ f.wf
  | .sh _ e k => e.isE = true ∧ e.wf ∧ 0 ≤ k ∧ k < 1000
  | .ite c e f => c.isE = false ∧ e.isE = true ∧ f.isE = true ∧ c.wf ∧ e.wf ∧ f.wf
  | .cmp _ e f => e.isE = true ∧ f.isE = true ∧ e.wf ∧ f.wf
  | .nt c => c.isE = false ∧ c.wf
  | .lg _ c d => c.isE = false ∧ d.isE = false ∧ c.wf ∧ d.wf
def Nd.vars : Nd → List Str
  | .var x => [x] | .lit _ _ => [] | .cast _ e => e.vars | .neg e => e.vars | .bin _ e f => e.vars ++ f.vars | .sh _ e _ => e.vars | .ite c e f => c.vars ++ (e.vars ++ f.vars) | .cmp _ e f => e.vars ++ f.vars | .nt c => c.vars | .lg _ c d => c.vars ++ d.vars
/-! ## what a drawing keeps: all but three lists -/
def Bs (r a b : Addr) (H H' : Hp) : Prop := ∀ q o, q ≠ r → q ≠ a → q ≠ b → H q = some o → H' q = some o
theorem Bs.refl (r a b : Addr) (H : Hp) : Bs r a b H H := fun _ _ _ _ _ h => h
theorem Bs.trans {r a b : Addr} {H H1 H2 : Hp} (x : Bs r a b H H1) (y : Bs r a b H1 H2) : Bs r a b H H2 := fun q o n1 n2 n3 h => y q o n1 n2 n3 (x q o n1 n2 n3 h)
theorem Bs.of {r a b : Addr} {H H1 : Hp} (e : Ex H H1) : Bs r a b H H1 := fun q o _ _ _ h => e q o h
theorem Bs.bu {r a b : Addr} {H H1 : Hp} (e : Bu r H H1) : Bs r a b H H1 := fun q o n _ _ h => e q o n h
/-- the draws, the free names, the literals that are left -/
structure Pool (H : Hp) (r a b : Addr) (n : Nat) (xs : List Str) (m : Nat) : Prop where
  g : Rng H r n
  f : H a = some (.lst (xs.map V.str))
  l : H b = some (.lst (List.replicate m (.int 0)))
  ar : a ≠ r
  br : b ≠ r
  ab : a ≠ b
  ok : ∀ x ∈ xs, PyData.strOk x = true
theorem Pool.ex {H H' : Hp} {r a b : Addr} {n : Nat} {xs : List Str} {m : Nat} (p : Pool H r a b n xs m) (e : Ex H H') : Pool H' r a b n xs m := ⟨p.g.ex e, e _ _ p.f, e _ _ p.l, p.ar, p.br, p.ab, p.ok⟩
theorem Pool.bu {H H' : Hp} {r a b : Addr} {n k : Nat} {xs : List Str} {m : Nat} (p : Pool H r a b n xs m) (e : Bu r H H') (g : Rng H' r k) : Pool H' r a b k xs m := ⟨g, e _ _ p.ar p.f, e _ _ p.br p.l, p.ar, p.br, p.ab, p.ok⟩
theorem Pool.le {H : Hp} {r a b : Addr} {n k : Nat} {xs : List Str} {m : Nat} (p : Pool H r a b n xs m) (h : n ≤ k) : Pool H r a b k xs m := ⟨p.g.le h, p.f, p.l, p.ar, p.br, p.ab, p.ok⟩
theorem Pool.ne {H : Hp} {r a b p : Addr} {n : Nat} {xs : List Str} {m : Nat} (o : Pool H r a b n xs m) {ys : List V} (h : H p = some (.tup ys)) : p ≠ r ∧ p ≠ a ∧ p ≠ b :=
  ⟨o.g.ne_tup h, ne_of h o.f (fun z => nomatch z), ne_of h o.l (fun z => nomatch z)⟩
theorem Bs.tk {r a b : Addr} {n : Nat} {xs : List Str} {m : Nat} {H H' : Hp} (e : Bs r a b H H') (o : Pool H r a b n xs m) : TupK H H' := fun q ys h => by
  obtain ⟨n1, n2, n3⟩ := o.ne h
  exact e q _ n1 n2 n3 h
theorem erase_perm {α : Type} : ∀ (xs : List α) (k : Nat) (h : k < xs.length), (xs[k] :: xs.eraseIdx k).Perm xs
  | x :: xs, 0, _ => List.Perm.refl _
  | x :: xs, k + 1, h => by
    have hk : k < xs.length := Nat.lt_of_succ_lt_succ h
    show (xs[k] :: x :: xs.eraseIdx k).Perm (x :: xs)
    exact (List.Perm.swap _ _ _).trans ((erase_perm xs k (Nat.lt_of_succ_lt_succ h)).cons x)
theorem erase_map {α β : Type} (g : α → β) : ∀ (xs : List α) (k : Nat), (xs.map g).eraseIdx k = (xs.eraseIdx k).map g
  | [], _ => rfl
  | x :: xs, 0 => rfl
  | x :: xs, k + 1 => by
    show g x :: (xs.map g).eraseIdx k = g x :: (xs.eraseIdx k).map g
    rw [erase_map g xs k]
/-- what a drawn tree is, and what it takes -/
structure Took (nd : Nd) (span : Nat) (xs ys : List Str) (m m' : Nat) : Prop where
  wf : nd.wf
  vs : (nd.vars ++ ys).Perm xs
  lv : nd.leaves + ys.length + m' = xs.length + m
  sz : nd.size ≤ span
def spTree (isE : Bool) (lo c s : Nat) : Sp := fun vs H Q _ => ∃ r a b span top n xs m, vs = [.ref r, .ref a, .ref b, .int (span : Nat), .int top] ∧ lo ≤ span ∧ span ≤ s ∧ span ≤ 30 ∧ 0 ≤ top ∧ top < 2 ^ 120 ∧ n + 6 * span < 2 ^ 50 + c ∧ Pool H r a b n xs m ∧ xs.length ≤ 100 ∧ m ≤ 100 ∧ 3 * span ≤ 5 * (xs.length + m) + 2 ∧
  ∀ p nd ys m' H', Bs r a b H H' → Pool H' r a b (n + 6 * span - c) ys m' → TreeAt H' p nd → nd.isE = isE → Took nd span xs ys m m' → 5 * nd.leaves ≤ 3 * span + (if isE = true then 2 else 1) → Q (.ref p) H'
theorem tree_at {isE : Bool} {lo c s : Nat} {σ : L2.St} {H : Hp} {ta : TA} {E : XK} {Q : VK} {r a b : Addr} {span : Nat} {top : Int} {n : Nat} {xs : List Str} {m : Nat} (h : EvA ta σ H [.ref r, .ref a, .ref b, .int (span : Nat), .int top]) (h1 : lo ≤ span) (h2 : span ≤ s) (h3 : span ≤ 30) (t0 : 0 ≤ top) (t1 : top < 2 ^ 120) (hn : n + 6 * span < 2 ^ 50 + c) (o : Pool H r a b n xs m) (hx : xs.length ≤ 100) (hm : m ≤ 100) (h5 : 3 * span ≤ 5 * (xs.length + m) + 2)
    (k : ∀ p nd ys m' H', Bs r a b H H' → Pool H' r a b (n + 6 * span - c) ys m' → TreeAt H' p nd → nd.isE = isE → Took nd span xs ys m m' → 5 * nd.leaves ≤ 3 * span + (if isE = true then 2 else 1) → Q (.ref p) H') : tCall (spTree isE lo c s) [] E ta σ H Q :=
  h H (Ex.refl H) _ fun H1 e => ⟨r, a, b, span, top, n, xs, m, rfl, h1, h2, h3, t0, t1, hn, o.ex e, hx, hm, h5, fun p nd ys m' H' bs => k p nd ys m' H' ((Bs.of e).trans bs)⟩
theorem Took.len {nd : Nd} {span : Nat} {xs ys : List Str} {m m' : Nat} (t : Took nd span xs ys m m') : ys.length ≤ xs.length := by
  have := t.vs.length_eq
  rw [List.length_append] at this
  omega
theorem leaves_pos : ∀ nd : Nd, 1 ≤ nd.leaves
  | .var _ => Nat.le_refl _ | .lit _ _ => Nat.le_refl _ | .cast _ e => leaves_pos e | .neg e => leaves_pos e
  | .bin _ e f => Nat.le_trans (leaves_pos e) (Nat.le_add_right _ _) | .sh _ e _ => leaves_pos e
  | .ite c e f => Nat.le_trans (leaves_pos c) (Nat.le_trans (Nat.le_add_right _ _) (Nat.le_add_right _ _))
  | .cmp _ e f => Nat.le_trans (leaves_pos e) (Nat.le_add_right _ _) | .nt c => leaves_pos c | .lg _ c d => Nat.le_trans (leaves_pos c) (Nat.le_add_right _ _)
theorem vars_leaves : ∀ nd : Nd, nd.vars.length ≤ nd.leaves
  | .var _ => Nat.le_refl _ | .lit _ _ => Nat.zero_le _ | .cast _ e => vars_leaves e | .neg e => vars_leaves e
  | .bin _ e f => by have h1 := vars_leaves e; have h2 := vars_leaves f; simp only [Nd.vars, Nd.leaves, List.length_append]; omega
  | .sh _ e _ => vars_leaves e
  | .ite c e f => by have h0 := vars_leaves c; have h1 := vars_leaves e; have h2 := vars_leaves f; simp only [Nd.vars, Nd.leaves, List.length_append]; omega
  | .cmp _ e f => by have h1 := vars_leaves e; have h2 := vars_leaves f; simp only [Nd.vars, Nd.leaves, List.length_append]; omega
  | .nt c => vars_leaves c
  | .lg _ e f => by have h1 := vars_leaves e; have h2 := vars_leaves f; simp only [Nd.vars, Nd.leaves, List.length_append]; omega
/-- the literals that are left do not grow -/
theorem Took.ml {nd : Nd} {span : Nat} {xs ys : List Str} {m m' : Nat} (t : Took nd span xs ys m m') : m' ≤ m := by
  have h1 := t.vs.length_eq
  rw [List.length_append] at h1
  have h2 := vars_leaves nd
  have h3 := t.lv
  omega
theorem perm2 {u v xs ys zs : List Str} (h1 : (u ++ ys).Perm xs) (h2 : (v ++ zs).Perm ys) : ((u ++ v) ++ zs).Perm xs := by
  rw [List.append_assoc]
  exact (h2.append_left u).trans h1
theorem Pool.fr {H : Hp} {r a b p : Addr} {n : Nat} {xs : List Str} {m : Nat} (o : Pool H r a b n xs m) (h : H p = none) : p ≠ r ∧ p ≠ a ∧ p ≠ b := by
  obtain ⟨d, s2, c, q, _⟩ := o.g
  exact ⟨(fun z => by rw [z, q] at h; exact nomatch h), (fun z => by rw [z, o.f] at h; exact nomatch h), (fun z => by rw [z, o.l] at h; exact nomatch h)⟩
/-- one leaf: at most five draws -/
def spLeaf : Sp := fun vs H Q _ => ∃ r a b top n xs m, vs = [.ref r, .ref a, .ref b, .int top] ∧ 0 ≤ top ∧ top < 2 ^ 120 ∧ n < 2 ^ 50 ∧ Pool H r a b n xs m ∧ xs.length ≤ 100 ∧ m ≤ 100 ∧ 1 ≤ xs.length + m ∧
  ∀ p nd ys m' H', Bs r a b H H' → Pool H' r a b (n + 5) ys m' → TreeAt H' p nd → nd.isE = true → Took nd 1 xs ys m m' → nd.leaves = 1 → Q (.ref p) H'
theorem pop_raw {K : PySem.W.Frag} {σ : L2.St} {H : Hp} {i : Nat} {l : Addr} {xs : List V} {r : V → List V → Hp → VK → Prop} {tr : TA} {Q : VK} (hi : σ[i]? = some (some (.ref l))) (hl : H l = some (.lst xs)) (h : tr σ H fun ys H2 => r (.ref l) ys H2 Q) : tBM K "list" r (tVar i) tr σ H Q :=
  ⟨.ref l, hi, .inl ⟨rfl, xs, sq_of hl⟩, h⟩
theorem pop0_raw {K : PySem.W.Frag} {σ : L2.St} {H : Hp} {i : Nat} {l : Addr} {xs : List V} {r : V → List V → Hp → VK → Prop} {Q : VK} (hi : σ[i]? = some (some (.ref l))) (hl : H l = some (.lst xs)) (h : r (.ref l) [] H Q) : tBM0 K "list" r (tVar i) σ H Q :=
  ⟨.ref l, hi, .inl ⟨rfl, xs, sq_of hl⟩, h⟩
theorem seq_ix {k n : Nat} (h : k < n) : seqIndex? (k : Int) n = some k := (ixN_seq (ixN_nat h)).1
/-- a list of scalars against the empty one -/
theorem ev_neE {K : PySem.W.Frag} {σ : L2.St} {H : Hp} {ta tb : TE} {a : Addr} {ds : List PyData} (ha : Ev ta σ H (.ref a)) (hb : EvL tb σ H []) (hx : ∀ H1, Ex H H1 → Dp K H1 (.ref a) (.list ds)) (hs : SeqAt.shaped (.list ds) = true) : Ev (tOp (rNeD K) ta tb) σ H (.bl (!PyData.eqv (.list ds) (.list []))) :=
  ev_opL ha hb fun q H1 hq e => fun H2 e2 Q k => ⟨.list ds, .list [], hx H2 (e.trans e2), .lst (sq_of (e2 _ _ hq)) .nil, hs, rfl, k H2 (Ex.refl H2)⟩
theorem ev_eqE {K : PySem.W.Frag} {σ : L2.St} {H : Hp} {ta tb : TE} {a : Addr} {ds : List PyData} (ha : Ev ta σ H (.ref a)) (hb : EvL tb σ H []) (hx : ∀ H1, Ex H H1 → Dp K H1 (.ref a) (.list ds)) (hs : SeqAt.shaped (.list ds) = true) : Ev (tOp (rEqD K) ta tb) σ H (.bl (PyData.eqv (.list ds) (.list []))) :=
  ev_opL ha hb fun q H1 hq e => fun H2 e2 Q k => ⟨.list ds, .list [], hx H2 (e.trans e2), .lst (sq_of (e2 _ _ hq)) .nil, hs, rfl, k H2 (Ex.refl H2)⟩
theorem dp_strs {K : PySem.W.Frag} {H : Hp} : ∀ xs : List Str, DpAll K H (xs.map V.str) (xs.map PyData.str)
  | [] => .nil
  | x :: xs => .cons (.str _) (dp_strs xs)
theorem strs_lay : ∀ xs : List Str, (∀ x ∈ xs, PyData.strOk x = true) → PyData.canLayAll0 (xs.map PyData.str) = true
  | [], _ => by simp [PyData.canLayAll0]
  | k :: ks, h => by
    have ih := strs_lay ks fun x hx => h x (List.mem_cons_of_mem _ hx)
    have hk := h k (List.mem_cons_self ..)
    simp [PyData.canLayAll0, PyData.canLay0, ih, hk]
theorem strs_depth : ∀ xs : List Str, PyData.depthAll (xs.map PyData.str) ≤ 2
  | [] => by simp [PyData.depthAll]
  | k :: ks => by
    have ih := strs_depth ks
    simp only [List.map_cons, PyData.depthAll, PyData.depth]
    omega
theorem strs_shaped {xs : List Str} (h : ∀ x ∈ xs, PyData.strOk x = true) : SeqAt.shaped (.list (xs.map PyData.str)) = true := by
  have h1 := strs_depth xs
  show (PyData.canLay0 (.list (xs.map PyData.str)) && decide (PyData.depth (.list (xs.map PyData.str)) ≤ 64)) = true
  rw [Bool.and_eq_true]
  refine ⟨by simp only [PyData.canLay0]; exact strs_lay xs h, decide_eq_true ?_⟩
  simp only [PyData.depth]
  omega
theorem zeros_lay : ∀ m : Nat, PyData.canLayAll0 (List.replicate m (.int 0)) = true
  | 0 => by simp [PyData.canLayAll0]
  | m + 1 => by
    have ih := zeros_lay m
    simp [PyData.canLayAll0, PyData.canLay0, ih, List.replicate_succ]
theorem zeros_depth : ∀ m : Nat, PyData.depthAll (List.replicate m (.int 0)) ≤ 2
  | 0 => by simp [PyData.depthAll]
  | m + 1 => by
    have ih := zeros_depth m
    simp only [List.replicate_succ, PyData.depthAll, PyData.depth]
    omega
theorem zeros_shaped (m : Nat) : SeqAt.shaped (.list (List.replicate m (.int 0))) = true := by
  have h1 := zeros_depth m
  show (PyData.canLay0 (.list (List.replicate m (.int 0))) && decide (PyData.depth (.list (List.replicate m (.int 0))) ≤ 64)) = true
  rw [Bool.and_eq_true]
  refine ⟨by simp only [PyData.canLay0]; exact zeros_lay m, decide_eq_true ?_⟩
  simp only [PyData.depth]
  omega
theorem strs_nil (xs : List Str) : PyData.eqv (.list (xs.map PyData.str)) (.list []) = decide (xs = []) := by cases xs <;> simp [PyData.eqv, PyData.eqvAll]
theorem zeros_nil (m : Nat) : PyData.eqv (.list (List.replicate m (.int 0))) (.list []) = decide (m = 0) := by cases m <;> simp [PyData.eqv, PyData.eqvAll, List.replicate_succ]
theorem dp_zeros {K : PySem.W.Frag} {H : Hp} : ∀ m : Nat, DpAll K H (List.replicate m (.int 0)) (List.replicate m (.int 0))
  | 0 => .nil
  | m + 1 => .cons (.int _) (dp_zeros m)
theorem cond_go {t : TT} {σ : L2.St} {H : Hp} {K : Bool → Hp → Prop} (P : Bool → Hp → Prop) (h1 : ∀ K : Bool → Hp → Prop, (∀ b H1, P b H1 → K b H1) → t σ H K) (h2 : ∀ b H1, P b H1 → K b H1) : t σ H K := h1 K h2

theorem and_raw {t u : TT} {σ : L2.St} {H : Hp} {Q : Bool → Hp → Prop} (h : t σ H fun c H1 => if c = true then u σ H1 Q else Q false H1) : tAnd t u σ H Q := h
theorem or_raw {t u : TT} {σ : L2.St} {H : Hp} {Q : Bool → Hp → Prop} (h : t σ H fun c H1 => if c = true then Q true H1 else u σ H1 Q) : tOr t u σ H Q := h
theorem rep_last (m : Nat) : (List.replicate (m + 1) (V.int 0))[(List.replicate (m + 1) (V.int 0)).length - 1]? = some (.int 0) := by
  rw [List.length_replicate, List.getElem?_replicate]
  exact if_pos (by omega)
theorem rep_drop (m : Nat) : (List.replicate (m + 1) (V.int 0)).dropLast = List.replicate m (.int 0) := by
  rw [List.dropLast_replicate]
  rfl
def sufsL : List V := [.str "", .str "", .str "u", .str "l", .str "ul", .str "w", .str "uw"]
theorem suf_at {j : Nat} (h : j < 7) : ∃ s, sufsL[j]? = some (.str s) ∧ s ∈ sufs := by
  match j, h with
  | 0, _ => exact ⟨_, rfl, by decide⟩
  | 1, _ => exact ⟨_, rfl, by decide⟩
  | 2, _ => exact ⟨_, rfl, by decide⟩
  | 3, _ => exact ⟨_, rfl, by decide⟩
  | 4, _ => exact ⟨_, rfl, by decide⟩
  | 5, _ => exact ⟨_, rfl, by decide⟩
  | 6, _ => exact ⟨_, rfl, by decide⟩
theorem given_all {α : Type} (xs : List α) (g : α → V) (d : α) : given xs.length (fun _ => true) (fun i => g (xs.getD i d)) = xs.map g := by
  unfold given
  rw [List.filter_eq_self.mpr (fun _ _ => rfl)]
  apply List.ext_getElem?
  intro i
  rw [List.getElem?_map, List.getElem?_map]
  by_cases h : i < xs.length
  · rw [List.getElem?_range h, List.getElem?_eq_getElem h]
    show some (g (xs.getD i d)) = some (g xs[i])
    rw [List.getD_eq_getElem?_getD, List.getElem?_eq_getElem h]
    rfl
  · rw [List.getElem?_eq_none (by simpa using h), List.getElem?_eq_none (by simpa using h)]
    rfl
def spWhole : Sp := fun vs H Q _ => ∃ r l many span top n rows, vs = [.ref r, .ref l, .int (many : Nat), .int (span : Nat), .int top] ∧ 1 ≤ many ∧ many ≤ 10 ∧ 1 ≤ span ∧ span ≤ 24 ∧ 0 ≤ top ∧ top < 2 ^ 120 ∧ n < 2 ^ 40 ∧ Rng H r n ∧ VarsAt H l rows ∧ rows.length ≤ 8 ∧ (∀ w ∈ rows, PyData.strOk w.name = true) ∧
  ∀ p nd H', Bu r H H' → Rng H' r (n + 200) → TreeAt H' p nd → nd.wf → nd.size ≤ 24 → (∃ ys, (nd.vars ++ ys).Perm (rows.map Row.name)) → Q (.ref p) H'
theorem Bs.back {r a b : Addr} {H H1 H2 : Hp} (e : Ex H H1) (ha : H a = none) (hb : H b = none) (bs : Bs r a b H1 H2) : Bu r H H2 := fun q o n h => bs q o n (fun z => by rw [z, ha] at h; exact nomatch h) (fun z => by rw [z, hb] at h; exact nomatch h) (e q o h)
end Cf

namespace Cf
open PySem PySem.Spec PyProof.Rows L2 Evl
/-! ## literals -/
def stOf (s : Str) : Nat := if s = "w" ∨ s = "uw" then 4 else if s = "l" ∨ s = "ul" then 3 else 2
def sgOf (s : Str) : Bool := !decide (s = "u" ∨ s = "ul" ∨ s = "uw")
def Md.hol (m : Md) (k : Kd) (i : Int) : Bool := decide (m.low k ≤ i ∧ i ≤ m.high k)
/-- the first of the last j ranks -/
def Md.litR (m : Md) (n : Int) (sg : Bool) : Nat → Option Kd
  | 0 => none
  | j + 1 => if m.hol (lawOf (4 - j) sg) n = true then some (lawOf (4 - j) sg) else m.litR n sg j
def Md.lit (m : Md) (n : Int) (s : Str) : Option Kd := m.litR n (sgOf s) (5 - stOf s)
def optV : Option Kd → V
  | none => .non
  | some k => k.v
def preLit (K : PySem.W.Frag) : List V → Hp → V → Prop := fun vs H v => ∃ p m n s, vs = [.ref p, .int n, .str s] ∧ AtM K H p m ∧ m.Ok ∧ s ∈ sufs ∧ v = optV (m.lit n s)
theorem spLit {K : PySem.W.Frag} {H : Hp} {p : Addr} {m : Md} {n : Int} {s : Str} (a : AtM K H p m) (o : m.Ok) (h : s ∈ sufs) : SpV (PV (preLit K)) [.ref p, .int n, .str s] H (optV (m.lit n s)) := PV.sp fun H1 e => ⟨p, m, n, s, rfl, a.ex e, o, h, rfl⟩
def preSt : List V → Hp → V → Prop := fun vs H v => ∃ s, vs = [.str s] ∧ s ∈ sufs ∧ v = .int (stOf s : Nat)
theorem spSt {H : Hp} {s : Str} (h : s ∈ sufs) : SpV (PV preSt) [.str s] H (.int (stOf s : Nat)) := PV.sp fun H1 e => ⟨s, rfl, h, rfl⟩
def inStr (a b : Str) : Bool := !(Builtin.Str.occurrences b a 0 b.length 1).isEmpty
theorem suf_facts {s : Str} (h : s ∈ sufs) : inStr "u" s = !sgOf s ∧ 2 + (if inStr "l" s = true then 1 else 0) + 2 * (if inStr "w" s = true then 1 else 0) = stOf s ∧ (inStr "w" s = true → stOf s = 4) ∧ (inStr "w" s = false → inStr "l" s = true → stOf s = 3) ∧ (inStr "w" s = false → inStr "l" s = false → stOf s = 2) ∧ 2 ≤ stOf s ∧ stOf s ≤ 4 := by
  simp only [sufs, List.mem_cons, List.not_mem_nil, or_false] at h
  rcases h with rfl | rfl | rfl | rfl | rfl | rfl <;> decide +kernel
theorem rv_inS {a b : Str} {H : Hp} : RV (fun x y H Q => ∃ i j, x = .str i ∧ y = .str j ∧ Q (.bl (!(Builtin.Str.occurrences j i 0 j.length 1).isEmpty)) H) (.str a) (.str b) H (.bl (inStr a b)) := fun H1 _ _ q => ⟨_, _, rfl, rfl, q H1 (Ex.refl H1)⟩
theorem rv_niS {a b : Str} {H : Hp} : RV (fun x y H Q => ∃ i j, x = .str i ∧ y = .str j ∧ Q (.bl (!(!(Builtin.Str.occurrences j i 0 j.length 1).isEmpty))) H) (.str a) (.str b) H (.bl (!inStr a b)) := fun H1 _ _ q => ⟨_, _, rfl, rfl, q H1 (Ex.refl H1)⟩
theorem ev_int1 {σ : L2.St} {H : Hp} {ta : TE} {b : Bool} (h : Ev ta σ H (.bl b)) : Ev (tCB (fun xs H Q => (∃ i, xs = [.int i] ∧ Q (.int i) H) ∨ ∃ k, xs = [.bl k] ∧ Q (.int (if k then 1 else 0)) H) (tCons ta tNil)) σ H (.int (if b = true then 1 else 0)) := ev_cb (ea_cons h ea_nil) fun H1 e Q q => .inr ⟨b, rfl, q H1 (Ex.refl H1)⟩
/-! ## admission -/
def Md.rowOk (m : Md) (w : Row) : Bool := m.hol w.kind w.low && m.hol w.kind w.high
def admV (m : Md) (rows : List Row) : Option Str := (rows.find? fun w => !m.rowOk w).map Row.name
def Nd.bad (m : Md) : Nd → Option (List Nat)
  | .var _ => none
  | .lit n s => if m.lit n s = none then some [] else none
  | .cast _ e => (e.bad m).map (0 :: ·)
  | .neg e => (e.bad m).map (0 :: ·)
  | .bin _ e f => ((e.bad m).map (0 :: ·)).or ((f.bad m).map (1 :: ·))
  | .sh _ e _ => (e.bad m).map (0 :: ·)
  | .ite c e f => ((c.bad m).map (0 :: ·)).or (((e.bad m).map (1 :: ·)).or ((f.bad m).map (2 :: ·)))
  | .cmp _ e f => ((e.bad m).map (0 :: ·)).or ((f.bad m).map (1 :: ·))
  | .nt c => (c.bad m).map (0 :: ·)
  | .lg _ c d => ((c.bad m).map (0 :: ·)).or ((d.bad m).map (1 :: ·))
def badL (m : Md) : Nat → List Nd → Option (List Nat)
  | _, [] => none
  | i, e :: es => ((e.bad m).map (i :: ·)).or (badL m (i + 1) es)
theorem bad_parts {m : Md} : ∀ {nd : Nd}, (∀ n s, nd = .lit n s → m.lit n s ≠ none) → nd.bad m = badL m 0 nd.parts
  | .var _, _ => rfl
  | .lit n s, h => if_neg (h n s rfl)
  | .cast _ _, _ => (Option.or_none ..).symm | .neg _, _ => (Option.or_none ..).symm | .sh _ _ _, _ => (Option.or_none ..).symm | .nt _, _ => (Option.or_none ..).symm
  | .bin _ _ _, _ => by simp only [Nd.bad, Nd.parts, badL, Option.or_none]
  | .ite _ _ _, _ => by simp only [Nd.bad, Nd.parts, badL, Option.or_none]
  | .cmp _ _ _, _ => by simp only [Nd.bad, Nd.parts, badL, Option.or_none]
  | .lg _ _ _, _ => by simp only [Nd.bad, Nd.parts, badL, Option.or_none]
theorem badL_at {m : Md} : ∀ {es : List Nd} {k i : Nat} {e : Nd} {q : List Nat}, es[i]? = some e → (∀ (j : Nat) (x : Nd), j < i → es[j]? = some x → x.bad m = none) → e.bad m = some q → badL m k es = some ((k + i) :: q)
  | x :: es, k, 0, e, q, h, _, hb => by
    cases (Option.some.inj h)
    simp only [badL, hb, Option.map_some, Option.some_or, Nat.add_zero]
  | x :: es, k, i + 1, e, q, h, hn, hb => by
    have h0 := hn 0 x (by omega) rfl
    have ih := badL_at (es := es) (k := k + 1) (i := i) (e := e) (q := q) h (fun j y hj hy => hn (j + 1) y (by omega) hy) hb
    simp only [badL, h0, Option.map_none, Option.none_or, ih]
    congr 2
    omega
theorem badL_no {m : Md} : ∀ {es : List Nd} {k : Nat}, (∀ (j : Nat) (x : Nd), es[j]? = some x → x.bad m = none) → badL m k es = none
  | [], _, _ => rfl
  | x :: es, k, h => by
    have h0 := h 0 x rfl
    have ih := badL_no (es := es) (k := k + 1) fun j y hy => h (j + 1) y hy
    simp only [badL, h0, Option.map_none, Option.none_or, ih]
theorem find_at {α : Type} {p : α → Bool} : ∀ {xs : List α} {i : Nat} {x : α}, xs[i]? = some x → p x = true → (∀ (j : Nat) (y : α), j < i → xs[j]? = some y → p y = false) → xs.find? p = some x
  | a :: xs, 0, x, h, hp, _ => by
    cases (Option.some.inj h)
    rw [List.find?_cons, hp]
  | a :: xs, i + 1, x, h, hp, hn => by
    rw [List.find?_cons, hn 0 a (by omega) rfl]
    exact find_at (i := i) h hp fun j y hj hy => hn (j + 1) y (by omega) hy
theorem find_no {α : Type} {p : α → Bool} {xs : List α} (h : ∀ (j : Nat) (y : α), xs[j]? = some y → p y = false) : xs.find? p = none := by
  rw [List.find?_eq_none]
  intro x hx
  obtain ⟨j, hj⟩ := List.getElem?_of_mem hx
  rw [h j x hj]
  decide
def pathV (q : List Nat) : List V := q.map fun i => V.int (i : Nat)
def pathD (q : List Nat) : PyData := .tuple (q.map fun i => PyData.int (i : Nat))
def admD (m : Md) (rows : List Row) (nd : Nd) (pt : List Nat) : PyData :=
  match admV m rows with
  | some x => .tuple [.str "variable", .str x]
  | none => match nd.bad m with
    | some q => .tuple [.str "literal", pathD (pt ++ q)]
    | none => .none
theorem path_all {K : PySem.W.Frag} {H : Hp} : ∀ q : List Nat, DpAll K H (pathV q) (q.map fun i => PyData.int (i : Nat))
  | [] => .nil
  | i :: q => .cons (.int _) (path_all q)
theorem path_dp {K : PySem.W.Frag} {H : Hp} {t : Addr} {q : List Nat} (h : SqT K H t (pathV q)) : Dp K H (.ref t) (pathD q) := .tup h (path_all q)
def spAdm (K : PySem.W.Frag) (d : Nat) : Sp := fun vs H Q _ => ∃ sch l p t m rows nd pt, vs = [.ref sch, .ref l, .ref p, .ref t] ∧ AtM K H sch m ∧ m.Ok ∧ VarsAt H l rows ∧ TreeAt H p nd ∧ nd.wf ∧ nd.size ≤ d ∧ SqT K H t (pathV pt) ∧ pt.length + nd.size ≤ 100 ∧
  ∀ v H', Ex H H' → Dp K H' v (admD m rows nd pt) → Q v H'
theorem PartsAt.at {H : Hp} : ∀ {qs : List Addr} {es : List Nd}, PartsAt H qs es → qs.length = es.length ∧ ∀ (i : Nat) (q : Addr), qs[i]? = some q → ∃ e, es[i]? = some e ∧ TreeAt H q e
  | [], [], _ => ⟨rfl, fun i q h => nomatch h⟩
  | q :: qs, e :: es, h => by
    obtain ⟨h1, h2⟩ := h.2.at
    refine ⟨by rw [List.length_cons, List.length_cons, h1], fun i x hx => ?_⟩
    cases i with
    | zero => cases (Option.some.inj hx); exact ⟨e, rfl, h.1⟩
    | succ i => exact h2 i x hx
  | [], _ :: _, h => h.elim
  | _ :: _, [], h => h.elim
theorem parts_wf : ∀ {nd : Nd}, nd.wf → ∀ e ∈ nd.parts, e.wf ∧ e.size < nd.size
  | .var _, _, e, h => nomatch h
  | .lit _ _, _, e, h => nomatch h
  | .cast _ a, w, e, h => by simp only [Nd.parts, List.mem_cons, List.not_mem_nil, or_false] at h; rw [h]; exact ⟨w.2, by simp only [Nd.size]; omega⟩
  | .neg a, w, e, h => by simp only [Nd.parts, List.mem_cons, List.not_mem_nil, or_false] at h; rw [h]; exact ⟨w.2, by simp only [Nd.size]; omega⟩
  | .bin _ a b, w, e, h => by
    simp only [Nd.parts, List.mem_cons, List.not_mem_nil, or_false] at h
    rcases h with rfl | rfl
    · exact ⟨w.2.2.1, by simp only [Nd.size]; omega⟩
    · exact ⟨w.2.2.2, by simp only [Nd.size]; omega⟩
  | .sh _ a _, w, e, h => by simp only [Nd.parts, List.mem_cons, List.not_mem_nil, or_false] at h; rw [h]; exact ⟨w.2.1, by simp only [Nd.size]; omega⟩
  | .ite a b c, w, e, h => by
    simp only [Nd.parts, List.mem_cons, List.not_mem_nil, or_false] at h
    rcases h with rfl | rfl | rfl
    · exact ⟨w.2.2.2.1, by simp only [Nd.size]; omega⟩
    · exact ⟨w.2.2.2.2.1, by simp only [Nd.size]; omega⟩
    · exact ⟨w.2.2.2.2.2, by simp only [Nd.size]; omega⟩
  | .cmp _ a b, w, e, h => by
    simp only [Nd.parts, List.mem_cons, List.not_mem_nil, or_false] at h
    rcases h with rfl | rfl
    · exact ⟨w.2.2.1, by simp only [Nd.size]; omega⟩
    · exact ⟨w.2.2.2, by simp only [Nd.size]; omega⟩
  | .nt a, w, e, h => by simp only [Nd.parts, List.mem_cons, List.not_mem_nil, or_false] at h; rw [h]; exact ⟨w.2, by simp only [Nd.size]; omega⟩
  | .lg _ a b, w, e, h => by
    simp only [Nd.parts, List.mem_cons, List.not_mem_nil, or_false] at h
    rcases h with rfl | rfl
    · exact ⟨w.2.2.1, by simp only [Nd.size]; omega⟩
    · exact ⟨w.2.2.2, by simp only [Nd.size]; omega⟩
theorem word_lit : ∀ {nd : Nd}, nd.word = "lit" → ∃ n s, nd = .lit n s
  | .lit n s, _ => ⟨n, s, rfl⟩
  | .bin .add _ _, h => absurd h (by show ("add" : Str) ≠ "lit"; decide)
  | .bin .sub _ _, h => absurd h (by show ("sub" : Str) ≠ "lit"; decide)
  | .bin .mul _ _, h => absurd h (by show ("mul" : Str) ≠ "lit"; decide)
  | .sh true _ _, h => absurd h (by show ("shl" : Str) ≠ "lit"; decide)
  | .sh false _ _, h => absurd h (by show ("shr" : Str) ≠ "lit"; decide)
  | .cmp true _ _, h => absurd h (by show ("less" : Str) ≠ "lit"; decide)
  | .cmp false _ _, h => absurd h (by show ("most" : Str) ≠ "lit"; decide)
  | .lg true _ _, h => absurd h (by show ("and" : Str) ≠ "lit"; decide)
  | .lg false _ _, h => absurd h (by show ("or" : Str) ≠ "lit"; decide)
  | .var _, h => absurd h (by show ("var" : Str) ≠ "lit"; decide)
  | .cast _ _, h => absurd h (by show ("cast" : Str) ≠ "lit"; decide)
  | .neg _, h => absurd h (by show ("neg" : Str) ≠ "lit"; decide)
  | .ite _ _ _, h => absurd h (by show ("if" : Str) ≠ "lit"; decide)
  | .nt _, h => absurd h (by show ("not" : Str) ≠ "lit"; decide)
theorem cat_at {K : PySem.W.Frag} {t u : Addr} {xs ys : List V} {H : Hp} {Q : VK} (h1 : SqT K H t xs) (h2 : SqT K H u ys) (hy : ys ≠ []) (hz : xs.length + ys.length ≤ 100000) (k : ∀ p H', Ex H H' → SqT K H' p (xs ++ ys) → Q (.ref p) H') : rCatA K (.ref t) (.ref u) H Q :=
  ⟨t, u, xs, ys, rfl, rfl, h1, h2, sz_of hz, fun hx => by subst hx; exact k u H (Ex.refl H) h2, fun _ h => absurd h hy, fun _ _ p hp => k p _ (Ex.new hp) (st_of upd_same)⟩
end Cf

namespace Cf
open PySem PySem.Spec PyProof.Rows L2 Evl
/-! ## the same tree but for its literals -/
structure Like (a b : Nd) : Prop where
  wf : b.wf
  vs : b.vars = a.vars
  sz : b.size = a.size
  e : b.isE = a.isE
def sumSz : List Nd → Nat
  | [] => 0
  | e :: es => e.size + sumSz es
theorem size_sum : ∀ nd : Nd, nd.size = 1 + sumSz nd.parts
  | .var _ => rfl | .lit _ _ => rfl | .cast _ _ => rfl | .neg _ => rfl | .sh _ _ _ => rfl | .nt _ => rfl
  | .bin _ _ _ => by simp only [Nd.size, Nd.parts, sumSz]; omega
  | .ite _ _ _ => by simp only [Nd.size, Nd.parts, sumSz]; omega
  | .cmp _ _ _ => by simp only [Nd.size, Nd.parts, sumSz]; omega
  | .lg _ _ _ => by simp only [Nd.size, Nd.parts, sumSz]; omega
theorem sum_take : ∀ (es : List Nd) (i : Nat) (e : Nd), es[i]? = some e → sumSz (es.take (i + 1)) = sumSz (es.take i) + e.size
  | x :: es, 0, e, h => by
    cases (Option.some.inj h)
    simp [sumSz]
  | x :: es, i + 1, e, h => by
    have ih := sum_take es i e h
    simp only [List.take_succ_cons, sumSz, ih]
    omega
theorem sum_le : ∀ (es : List Nd) (i : Nat), sumSz (es.take i) ≤ sumSz es
  | [], i => by simp [sumSz]
  | x :: es, 0 => by simp [sumSz]
  | x :: es, i + 1 => by
    have ih := sum_le es i
    simp only [List.take_succ_cons, sumSz]
    omega
/-- a row of like ones -/
def Likes : List Nd → List Nd → Prop
  | [], [] => True
  | a :: as, b :: bs => Like a b ∧ Likes as bs
  | _, _ => False
theorem likes_add : ∀ {as bs : List Nd} {a b : Nd}, Likes as bs → Like a b → Likes (as ++ [a]) (bs ++ [b])
  | [], [], _, _, _, h => ⟨h, trivial⟩
  | _ :: _, _ :: _, _, _, h, k => ⟨h.1, likes_add h.2 k⟩
  | [], _ :: _, _, _, h, _ => h.elim
  | _ :: _, [], _, _, h, _ => h.elim
theorem parts_add {H : Hp} : ∀ {qs : List Addr} {es : List Nd} {q : Addr} {e : Nd}, PartsAt H qs es → TreeAt H q e → PartsAt H (qs ++ [q]) (es ++ [e])
  | [], [], _, _, _, h => ⟨h, trivial⟩
  | _ :: _, _ :: _, _, _, h, k => ⟨h.1, parts_add h.2 k⟩
  | [], _ :: _, _, _, h, _ => h.elim
  | _ :: _, [], _, _, h, _ => h.elim
theorem likes_one {e : Nd} : ∀ {bs : List Nd}, Likes [e] bs → ∃ b, bs = [b] ∧ Like e b
  | [b], h => ⟨b, rfl, h.1⟩
  | [], h => h.elim
  | _ :: _ :: _, h => h.2.elim
theorem likes_two {e f : Nd} : ∀ {bs : List Nd}, Likes [e, f] bs → ∃ b c, bs = [b, c] ∧ Like e b ∧ Like f c
  | [b, c], h => ⟨b, c, rfl, h.1, h.2.1⟩
  | [], h => h.elim
  | [_], h => h.2.elim
  | _ :: _ :: _ :: _, h => h.2.2.elim
theorem likes_three {e f g : Nd} : ∀ {bs : List Nd}, Likes [e, f, g] bs → ∃ b c d, bs = [b, c, d] ∧ Like e b ∧ Like f c ∧ Like g d
  | [b, c, d], h => ⟨b, c, d, rfl, h.1, h.2.1, h.2.2.1⟩
  | [], h => h.elim
  | [_], h => h.2.elim
  | [_, _], h => h.2.2.elim
  | _ :: _ :: _ :: _ :: _, h => h.2.2.2.elim
theorem parts_one {H : Hp} {e : Nd} : ∀ {qs : List Addr}, PartsAt H qs [e] → ∃ q, qs = [q] ∧ TreeAt H q e
  | [q], h => ⟨q, rfl, h.1⟩
  | [], h => h.elim
  | _ :: _ :: _, h => h.2.elim
theorem parts_two {H : Hp} {e f : Nd} : ∀ {qs : List Addr}, PartsAt H qs [e, f] → ∃ q r, qs = [q, r] ∧ TreeAt H q e ∧ TreeAt H r f
  | [q, r], h => ⟨q, r, rfl, h.1, h.2.1⟩
  | [], h => h.elim
  | [_], h => h.2.elim
  | _ :: _ :: _ :: _, h => h.2.2.elim
theorem parts_three {H : Hp} {e f g : Nd} : ∀ {qs : List Addr}, PartsAt H qs [e, f, g] → ∃ q r s, qs = [q, r, s] ∧ TreeAt H q e ∧ TreeAt H r f ∧ TreeAt H s g
  | [q, r, s], h => ⟨q, r, s, rfl, h.1, h.2.1, h.2.2.1⟩
  | [], h => h.elim
  | [_], h => h.2.elim
  | [_, _], h => h.2.2.elim
  | _ :: _ :: _ :: _ :: _, h => h.2.2.2.elim
/-- the parts behind the word -/
theorem rebuild {H : Hp} {p : Addr} : ∀ {nd : Nd} {qs : List Addr} {es : List Nd}, inV (.str nd.word) [.str "var", .str "lit"] = false → inV (.str nd.word) [.str "cast", .str "shl", .str "shr"] = false → nd.wf → H p = some (.tup (.str nd.word :: qs.map V.ref)) → PartsAt H qs es → Likes nd.parts es → ∃ nd', TreeAt H p nd' ∧ Like nd nd'
  | .var _, _, _, h, _, _, _, _, _ => absurd h (by show ¬ true = false; decide)
  | .lit _ _, _, _, h, _, _, _, _, _ => absurd h (by show ¬ true = false; decide)
  | .cast _ _, _, _, _, h, _, _, _, _ => absurd h (by show ¬ true = false; decide)
  | .sh true _ _, _, _, _, h, _, _, _, _ => absurd h (by show ¬ true = false; decide)
  | .sh false _ _, _, _, _, h, _, _, _, _ => absurd h (by show ¬ true = false; decide)
  | .neg e, qs, es, _, _, w, hp, hP, hL => by
    obtain ⟨b, rfl, l⟩ := likes_one hL
    obtain ⟨q, rfl, t⟩ := parts_one hP
    exact ⟨.neg b, ⟨q, hp, t⟩, ⟨l.e.trans w.1, l.wf⟩, l.vs, by simp only [Nd.size, l.sz], rfl⟩
  | .nt e, qs, es, _, _, w, hp, hP, hL => by
    obtain ⟨b, rfl, l⟩ := likes_one hL
    obtain ⟨q, rfl, t⟩ := parts_one hP
    exact ⟨.nt b, ⟨q, hp, t⟩, ⟨l.e.trans w.1, l.wf⟩, l.vs, by simp only [Nd.size, l.sz], rfl⟩
  | .bin o e f, qs, es, _, _, w, hp, hP, hL => by
    obtain ⟨b, c, rfl, l, k⟩ := likes_two hL
    obtain ⟨q, r, rfl, t, u⟩ := parts_two hP
    exact ⟨.bin o b c, ⟨q, r, hp, t, u⟩, ⟨l.e.trans w.1, k.e.trans w.2.1, l.wf, k.wf⟩, by simp only [Nd.vars, l.vs, k.vs], by simp only [Nd.size, l.sz, k.sz], rfl⟩
  | .cmp o e f, qs, es, _, _, w, hp, hP, hL => by
    obtain ⟨b, c, rfl, l, k⟩ := likes_two hL
    obtain ⟨q, r, rfl, t, u⟩ := parts_two hP
    exact ⟨.cmp o b c, ⟨q, r, hp, t, u⟩, ⟨l.e.trans w.1, k.e.trans w.2.1, l.wf, k.wf⟩, by simp only [Nd.vars, l.vs, k.vs], by simp only [Nd.size, l.sz, k.sz], rfl⟩
  | .lg o e f, qs, es, _, _, w, hp, hP, hL => by
    obtain ⟨b, c, rfl, l, k⟩ := likes_two hL
    obtain ⟨q, r, rfl, t, u⟩ := parts_two hP
    exact ⟨.lg o b c, ⟨q, r, hp, t, u⟩, ⟨l.e.trans w.1, k.e.trans w.2.1, l.wf, k.wf⟩, by simp only [Nd.vars, l.vs, k.vs], by simp only [Nd.size, l.sz, k.sz], rfl⟩
  | .ite e f g, qs, es, _, _, w, hp, hP, hL => by
    obtain ⟨b, c, d, rfl, l, k, j⟩ := likes_three hL
    obtain ⟨q, r, s, rfl, t, u, v⟩ := parts_three hP
    exact ⟨.ite b c d, ⟨q, r, s, hp, t, u, v⟩, ⟨l.e.trans w.1, k.e.trans w.2.1, j.e.trans w.2.2.1, l.wf, k.wf, j.wf⟩, by simp only [Nd.vars, l.vs, k.vs, j.vs], by simp only [Nd.size, l.sz, k.sz, j.sz], rfl⟩
/-! ## data of trees -/
theorem kd_ok (k : Kd) : PyData.strOk k.s = true := by cases k <;> decide +kernel
theorem suf_ok {s : Str} (h : s ∈ sufs) : PyData.strOk s = true := by
  simp only [sufs, List.mem_cons, List.not_mem_nil, or_false] at h
  rcases h with rfl | rfl | rfl | rfl | rfl | rfl <;> decide +kernel
theorem nd_lay : ∀ {nd : Nd}, nd.wf → (∀ x ∈ nd.vars, PyData.strOk x = true) → nd.dat.canLay0 = true
  | .var x, _, h => by
    have := h x (List.mem_cons_self ..)
    simp only [Nd.dat, PyData.canLay0, PyData.canLayAll0, this, Bool.and_true]
    decide +kernel
  | .lit n s, w, _ => by
    simp only [Nd.dat, PyData.canLay0, PyData.canLayAll0, suf_ok w.2.2, Bool.and_true]
    decide +kernel
  | .cast k e, w, h => by
    simp only [Nd.dat, PyData.canLay0, PyData.canLayAll0, kd_ok, nd_lay w.2 h, Bool.and_true]
    decide +kernel
  | .neg e, w, h => by
    simp only [Nd.dat, PyData.canLay0, PyData.canLayAll0, nd_lay w.2 h, Bool.and_true]
    decide +kernel
  | .nt e, w, h => by
    simp only [Nd.dat, PyData.canLay0, PyData.canLayAll0, nd_lay w.2 h, Bool.and_true]
    decide +kernel
  | .sh b e k, w, h => by
    simp only [Nd.dat, PyData.canLay0, PyData.canLayAll0, nd_lay w.2.1 h, Bool.and_true]
    cases b <;> decide +kernel
  | .bin o e f, w, h => by
    simp only [Nd.dat, PyData.canLay0, PyData.canLayAll0, nd_lay w.2.2.1 (fun x hx => h x (List.mem_append_left _ hx)), nd_lay w.2.2.2 (fun x hx => h x (List.mem_append_right _ hx)), Bool.and_true]
    cases o <;> decide +kernel
  | .cmp o e f, w, h => by
    simp only [Nd.dat, PyData.canLay0, PyData.canLayAll0, nd_lay w.2.2.1 (fun x hx => h x (List.mem_append_left _ hx)), nd_lay w.2.2.2 (fun x hx => h x (List.mem_append_right _ hx)), Bool.and_true]
    cases o <;> decide +kernel
  | .lg o e f, w, h => by
    simp only [Nd.dat, PyData.canLay0, PyData.canLayAll0, nd_lay w.2.2.1 (fun x hx => h x (List.mem_append_left _ hx)), nd_lay w.2.2.2 (fun x hx => h x (List.mem_append_right _ hx)), Bool.and_true]
    cases o <;> decide +kernel
  | .ite e f g, w, h => by
    simp only [Nd.dat, PyData.canLay0, PyData.canLayAll0, nd_lay w.2.2.2.1 (fun x hx => h x (List.mem_append_left _ hx)), nd_lay w.2.2.2.2.1 (fun x hx => h x (List.mem_append_right _ (List.mem_append_left _ hx))), nd_lay w.2.2.2.2.2 (fun x hx => h x (List.mem_append_right _ (List.mem_append_right _ hx))), Bool.and_true]
    decide +kernel
theorem nd_depth : ∀ nd : Nd, nd.dat.depth ≤ nd.size
  | .var _ => by simp [Nd.dat, PyData.depth, PyData.depthAll, Nd.size]
  | .lit _ _ => by simp [Nd.dat, PyData.depth, PyData.depthAll, Nd.size]
  | .cast _ e => by have := nd_depth e; simp [Nd.dat, PyData.depth, PyData.depthAll, Nd.size]; omega
  | .neg e => by have := nd_depth e; simp [Nd.dat, PyData.depth, PyData.depthAll, Nd.size]; omega
  | .nt e => by have := nd_depth e; simp [Nd.dat, PyData.depth, PyData.depthAll, Nd.size]; omega
  | .sh _ e _ => by have := nd_depth e; simp [Nd.dat, PyData.depth, PyData.depthAll, Nd.size]; omega
  | .bin _ e f => by have := nd_depth e; have := nd_depth f; simp [Nd.dat, PyData.depth, PyData.depthAll, Nd.size]; omega
  | .cmp _ e f => by have := nd_depth e; have := nd_depth f; simp [Nd.dat, PyData.depth, PyData.depthAll, Nd.size]; omega
  | .lg _ e f => by have := nd_depth e; have := nd_depth f; simp [Nd.dat, PyData.depth, PyData.depthAll, Nd.size]; omega
  | .ite e f g => by have := nd_depth e; have := nd_depth f; have := nd_depth g; simp [Nd.dat, PyData.depth, PyData.depthAll, Nd.size]; omega
theorem parts_dp {K : PySem.W.Frag} {H : Hp} : ∀ {qs : List Addr} {es : List Nd}, PartsAt H qs es → DpAll K H (qs.map V.ref) (es.map Nd.dat)
  | [], [], _ => .nil
  | _ :: _, _ :: _, h => .cons h.1.dp (parts_dp h.2)
  | [], _ :: _, h => h.elim
  | _ :: _, [], h => h.elim
theorem nds_lay : ∀ {es : List Nd}, (∀ e ∈ es, e.wf ∧ ∀ x ∈ e.vars, PyData.strOk x = true) → PyData.canLayAll0 (es.map Nd.dat) = true
  | [], _ => by simp [PyData.canLayAll0]
  | e :: es, h => by
    have h1 := h e (List.mem_cons_self ..)
    have ih := nds_lay (es := es) fun x hx => h x (List.mem_cons_of_mem _ hx)
    simp [PyData.canLayAll0, nd_lay h1.1 h1.2, ih]
theorem nds_depth : ∀ es : List Nd, PyData.depthAll (es.map Nd.dat) ≤ sumSz es
  | [] => by simp [PyData.depthAll]
  | e :: es => by
    have h1 := nd_depth e
    have ih := nds_depth es
    simp only [List.map_cons, PyData.depthAll, sumSz]
    omega
theorem nds_shaped {es : List Nd} (h : ∀ e ∈ es, e.wf ∧ ∀ x ∈ e.vars, PyData.strOk x = true) (hs : sumSz es ≤ 60) : SeqAt.shaped (.list (es.map Nd.dat)) = true := by
  have h1 := nds_depth es
  show (PyData.canLay0 (.list (es.map Nd.dat)) && decide (PyData.depth (.list (es.map Nd.dat)) ≤ 64)) = true
  rw [Bool.and_eq_true]
  refine ⟨by simp only [PyData.canLay0]; exact nds_lay h, decide_eq_true ?_⟩
  simp only [PyData.depth]
  omega
theorem nds_nil (es : List Nd) : PyData.eqv (.list (es.map Nd.dat)) (.list []) = decide (es = []) := by cases es <;> simp [PyData.eqv, PyData.eqvAll]
theorem parts_vars : ∀ {nd : Nd} {e : Nd}, e ∈ nd.parts → ∀ x ∈ e.vars, x ∈ nd.vars
  | .var _, _, h, _, _ => nomatch h
  | .lit _ _, _, h, _, _ => nomatch h
  | .cast _ a, e, h, x, hx => by simp only [Nd.parts, List.mem_cons, List.not_mem_nil, or_false] at h; rw [h] at hx; exact hx
  | .neg a, e, h, x, hx => by simp only [Nd.parts, List.mem_cons, List.not_mem_nil, or_false] at h; rw [h] at hx; exact hx
  | .nt a, e, h, x, hx => by simp only [Nd.parts, List.mem_cons, List.not_mem_nil, or_false] at h; rw [h] at hx; exact hx
  | .sh _ a _, e, h, x, hx => by simp only [Nd.parts, List.mem_cons, List.not_mem_nil, or_false] at h; rw [h] at hx; exact hx
  | .bin _ a b, e, h, x, hx => by
    simp only [Nd.parts, List.mem_cons, List.not_mem_nil, or_false] at h
    rcases h with rfl | rfl
    · exact List.mem_append_left _ hx
    · exact List.mem_append_right _ hx
  | .cmp _ a b, e, h, x, hx => by
    simp only [Nd.parts, List.mem_cons, List.not_mem_nil, or_false] at h
    rcases h with rfl | rfl
    · exact List.mem_append_left _ hx
    · exact List.mem_append_right _ hx
  | .lg _ a b, e, h, x, hx => by
    simp only [Nd.parts, List.mem_cons, List.not_mem_nil, or_false] at h
    rcases h with rfl | rfl
    · exact List.mem_append_left _ hx
    · exact List.mem_append_right _ hx
  | .ite a b c, e, h, x, hx => by
    simp only [Nd.parts, List.mem_cons, List.not_mem_nil, or_false] at h
    rcases h with rfl | rfl | rfl
    · exact List.mem_append_left _ hx
    · exact List.mem_append_right _ (List.mem_append_left _ hx)
    · exact List.mem_append_right _ (List.mem_append_right _ hx)
def spPut (K : PySem.W.Frag) (d : Nat) : Sp := fun vs H Q _ => ∃ r p sch n nd m, vs = [.ref r, .ref p, .ref sch] ∧ nd.size ≤ d ∧ nd.size ≤ 30 ∧ n + 6 * nd.size < 2 ^ 45 ∧ Rng H r n ∧ TreeAt H p nd ∧ nd.wf ∧ (∀ x ∈ nd.vars, PyData.strOk x = true) ∧ AtM K H sch m ∧ m.Ok ∧
  ∀ p' nd' H', Bu r H H' → Rng H' r (n + 6 * nd.size) → TreeAt H' p' nd' → Like nd nd' → Q (.ref p') H'
theorem put_shape : ∀ nd : Nd, (∃ k e, nd = .cast k e) ∨ (∃ b e k, nd = .sh b e k) ∨ (nd.word ≠ "cast" ∧ inV (.str nd.word) [.str "shl", .str "shr"] = false ∧ (nd.parts = [] ∨ (inV (.str nd.word) [.str "var", .str "lit"] = false ∧ inV (.str nd.word) [.str "cast", .str "shl", .str "shr"] = false ∧ nd.parts ≠ [])))
  | .cast k e => .inl ⟨k, e, rfl⟩
  | .sh b e k => .inr (.inl ⟨b, e, k, rfl⟩)
  | .var _ => .inr (.inr ⟨by show ("var" : Str) ≠ "cast"; decide, rfl, .inl rfl⟩)
  | .lit _ _ => .inr (.inr ⟨by show ("lit" : Str) ≠ "cast"; decide, rfl, .inl rfl⟩)
  | .neg _ => .inr (.inr ⟨by show ("neg" : Str) ≠ "cast"; decide, rfl, .inr ⟨rfl, rfl, fun z => nomatch z⟩⟩)
  | .nt _ => .inr (.inr ⟨by show ("not" : Str) ≠ "cast"; decide, rfl, .inr ⟨rfl, rfl, fun z => nomatch z⟩⟩)
  | .ite _ _ _ => .inr (.inr ⟨by show ("if" : Str) ≠ "cast"; decide, rfl, .inr ⟨rfl, rfl, fun z => nomatch z⟩⟩)
  | .bin o _ _ => .inr (.inr ⟨by cases o <;> (show (_ : Str) ≠ "cast") <;> simp only [Nd.word, Bo.s] <;> decide, by cases o <;> rfl, .inr ⟨by cases o <;> rfl, by cases o <;> rfl, fun z => nomatch z⟩⟩)
  | .cmp b _ _ => .inr (.inr ⟨by cases b <;> (show (_ : Str) ≠ "cast") <;> simp only [Nd.word, cmpS] <;> decide, by cases b <;> rfl, .inr ⟨by cases b <;> rfl, by cases b <;> rfl, fun z => nomatch z⟩⟩)
  | .lg b _ _ => .inr (.inr ⟨by cases b <;> (show (_ : Str) ≠ "cast") <;> simp only [Nd.word, lgS] <;> decide, by cases b <;> rfl, .inr ⟨by cases b <;> rfl, by cases b <;> rfl, fun z => nomatch z⟩⟩)
theorem word_not : ∀ nd : Nd, (∃ n s, nd = .lit n s) ∨ nd.word ≠ "lit" := fun nd => by
  by_cases h : nd.word = "lit"
  · exact .inl (word_lit h)
  · exact .inr h
theorem likes_len : ∀ {as bs : List Nd}, Likes as bs → as.length = bs.length
  | [], [], _ => rfl
  | _ :: _, _ :: _, h => by rw [List.length_cons, List.length_cons, likes_len h.2]
  | [], _ :: _, h => h.elim
  | _ :: _, [], h => h.elim
theorem likes_mem : ∀ {as bs : List Nd}, Likes as bs → ∀ b ∈ bs, ∃ a ∈ as, Like a b
  | [], [], _, b, h => nomatch h
  | a :: as, b :: bs, h, c, hc => by
    rcases List.mem_cons.mp hc with rfl | hc
    · exact ⟨a, List.mem_cons_self .., h.1⟩
    · obtain ⟨x, h1, h2⟩ := likes_mem h.2 c hc
      exact ⟨x, List.mem_cons_of_mem _ h1, h2⟩
  | [], _ :: _, h, _, _ => h.elim
  | _ :: _, [], h, _, _ => h.elim
theorem likes_sum : ∀ {as bs : List Nd}, Likes as bs → sumSz bs = sumSz as
  | [], [], _ => rfl
  | _ :: _, _ :: _, h => by simp only [sumSz, h.1.sz, likes_sum h.2]
  | [], _ :: _, h => h.elim
  | _ :: _, [], h => h.elim
theorem shl1_raw {b : Nat} (h : b ≤ 128) {H : Hp} {Q : VK} (k : ∀ H', Ex H H' → Q (.int (2 ^ b)) H') : rI CPow (fun i j => .int (i * 2 ^ j.toNat)) (.int 1) (.int (b : Int)) H Q := shl1 (σ := []) h ev_c ev_c H (Ex.refl H) Q k
theorem cat_new {K : PySem.W.Frag} {t u : Addr} {xs ys : List V} {H : Hp} {Q : VK} (h1 : SqT K H t xs) (h2 : SqT K H u ys) (hx : xs ≠ []) (hy : ys ≠ []) (hz : xs.length + ys.length ≤ 100000) (k : ∀ p H', Ex H H' → H' p = some (.tup (xs ++ ys)) → Q (.ref p) H') : rCatA K (.ref t) (.ref u) H Q :=
  ⟨t, u, xs, ys, rfl, rfl, h1, h2, sz_of hz, fun h => absurd h hx, fun _ h => absurd h hy, fun _ _ p hp => k p _ (Ex.new hp) upd_same⟩
end Cf

namespace Cf
open PySem PySem.Spec PyProof.Rows L2 Evl
/-! ## enumerate(zip(a, b)) over two lists: zip's own tuple may be out, alive or gone -/
abbrev ZSt (h : Heap) (z TI TO : Addr) (q : Value) (g : Bool) : Prop :=
  h.get? z = some { cls := .type "zip", dict := none, data := .fields #[q, .bool g, .bool false, .ref TI, .ref TO], slots := #[] }
def ZOk (q : Value) : Prop := q = .none ∨ ∃ n : Nat, q = rawInt n
section
variable {pr : Program} {wo : World} {Ar : Around} {Er : Value → Shared → Prop} {st : Shared}
theorem zFree {z TI TO : Addr} {q : Value} {g : Bool} {R : Bool → Shared → Prop} (hz : ZSt st.heap z TI TO q g) (zo : ZOk q) (k : ∀ b h' g', ZSt h' z TI TO q g' → Heap.SameBut z st.heap h' → R b { st with heap := h' }) :
    wpAny (model pr wo) Ar (Builtin.SmallTypes.ownedTupleIsFree (.ref z)) R Er st := by
  unfold Builtin.SmallTypes.ownedTupleIsFree
  have kk := k true st.heap g hz (Heap.SameBut.refl _ _)
  rcases zo with rfl | ⟨n, rfl⟩
  · exact wpAny_bind (wpAny_field hz rfl (x := .none) rfl (wpAny_pure kk))
  · refine wpAny_bind (wpAny_field hz rfl (x := rawInt n) rfl ?_)
    show wpAny _ _ (loadIfAlive ((n : Int).toNat) >>= _) _ _ _
    rw [Int.toNat_natCast]
    have al : ∀ {R2 : Option Obj → Shared → Prop}, R2 (st.heap.get? n) st → wpAny (model pr wo) Ar (loadIfAlive n) R2 Er st := fun h => fun _ _ _ => h
    refine wpAny_bind (al ?_)
    cases hn : st.heap.get? n with
    | none =>
      simp only [Option.isNone_none, if_true]
      exact wpAny_pure kk
    | some o =>
      simp only [Option.isNone_some, Bool.false_eq_true, if_false]
      refine wpAny_bind (wpAny_field hz rfl (x := .bool g) rfl ?_)
      cases g with
      | true =>
        rw [if_neg (show ¬ ((Value.bool true != Value.bool true) = true) from Bool.false_ne_true)]
        exact wpAny_pure (k false st.heap true hz (Heap.SameBut.refl _ _))
      | false =>
        rw [if_pos (show (Value.bool false != Value.bool true) = true from rfl)]
        exact wpAny_bind (wpAny_setField_rec hz (by simp) fun ha hza hsa => wpAny_pure (k false ha true hza hsa))
theorem zGo {z TI TO j1 j2 a1 a2 : Addr} {n1 n2 : Nat} {xs ys : Array Value} {x y u v q : Value} {g : Bool} {R : Value → Shared → Prop} (D : ZipApart z TI TO j1 j2 a1 a2)
    (hz : ZSt st.heap z TI TO q g) (zo : ZOk q) (hI : IsPair st.heap TI (.ref j1) (.ref j2)) (hO : IsPair st.heap TO u v)
    (m1 : st.heap.IsListIter j1 a1 n1) (m2 : st.heap.IsListIter j2 a2 n2) (la : st.heap.IsList a1 xs) (lb : st.heap.IsList a2 ys) (hx : xs[n1]? = some x) (hy : ys[n2]? = some y)
    (k : ∀ h' q' g', ZSt h' z TI TO q' g' → ZOk q' → (∃ u v, IsPair h' TO u v) → h'.IsListIter j1 a1 (n1 + 1) → h'.IsListIter j2 a2 (n2 + 1) → IsPair h' st.heap.objs.size x y → h'.objs.size = st.heap.objs.size + 1 →
      (∀ b o, b ≠ z → b ≠ TO → b ≠ j1 → b ≠ j2 → st.heap.get? b = some o → h'.get? b = some o) → R (.ref st.heap.objs.size) { st with heap := h' }) :
    wpAny (model pr wo) Ar (Builtin.«zip.__next__» ⟨[.ref z], []⟩) (fun fin s' => ∃ r, fin = .done (.ret r) ∧ R r s') Er st := by
  show wpAny _ _ (field (.ref z) 2 >>= _) _ _ _
  refine wpAny_bind (wpAny_field hz rfl (x := .bool false) rfl ?_)
  show wpAny _ _ (field (.ref z) 3 >>= _) _ _ _
  refine wpAny_bind (wpAny_field hz rfl (x := .ref TI) rfl ?_)
  refine wpAny_bind (wpAny_seqItems hI rfl ?_)
  show wpAny _ _ (Builtin.SmallTypes.ownedTupleIsFree (.ref z) >>= _) _ _ _
  refine wpAny_bind (zFree hz zo fun b ha g' za sa => ?_)
  cases b with
  | true =>
    simp only [if_true]
    refine wpAny_bind (wpAny_rule ?_)
    refine wpAny_bind (wpAny_field za rfl (x := .ref TO) rfl ?_)
    refine wpAny_bind (wpAny_setField_rec za (by simp) fun hb zb sb => ?_)
    replace zb : ZSt hb z TI TO .ellipsis g' := zb
    have sab : ∀ {b o}, b ≠ z → st.heap.get? b = some o → hb.get? b = some o := fun n e => sb.extBut _ _ n (sa.extBut _ _ n e)
    refine wpAny_bind ?_
    simp only [List.zipIdx_cons, List.zipIdx_nil, List.forIn_cons, List.forIn_nil]
    refine wpAny_bind (wpAny_bind (wpAny_onRaise ?_))
    show wpAny _ _ (Builtin.SmallTypes.nextOf (.ref j1) >>= _) _ _ _
    refine wpAny_bind (wpAny_nextOf_list_item (m1.at fun o e => sab D.i1z e) (la.at fun o e => sab D.l1z e) hx fun hc m1c sc => wpAny_pure ?_)
    have Oc : IsPair hc TO u v := sc.extBut _ _ D.TOi1 (sab D.TOz hO)
    refine wpAny_bind (wpAny_seqItems Oc rfl ?_)
    refine wpAny_bind (wpAny_updateSeq_pair Oc fun hd Od sd => ?_)
    replace Od : IsPair hd TO x v := Od
    refine wpAny_bind (wpAny_letGo (wpAny_pure ?_))
    refine wpAny_bind (wpAny_bind (wpAny_onRaise ?_))
    show wpAny _ _ (Builtin.SmallTypes.nextOf (.ref j2) >>= _) _ _ _
    have sad : ∀ {b o}, b ≠ z → b ≠ j1 → b ≠ TO → st.heap.get? b = some o → hd.get? b = some o := fun n1 n2 n3 e => sd.extBut _ _ n3 (sc.extBut _ _ n2 (sab n1 e))
    refine wpAny_bind (wpAny_nextOf_list_item (m2.at fun o e => sad D.i2z D.i12.symm D.TOi2.symm e) (lb.at fun o e => sad D.l2z D.l2i1 D.l2TO e) hy fun he m2e se => wpAny_pure ?_)
    have Oe : IsPair he TO x v := se.extBut _ _ D.TOi2 Od
    refine wpAny_bind (wpAny_seqItems Oe rfl ?_)
    refine wpAny_bind (wpAny_updateSeq_pair Oe fun hf Of sf => ?_)
    replace Of : IsPair hf TO x y := Of
    refine wpAny_bind (wpAny_letGo (wpAny_pure (wpAny_pure ?_)))
    refine wpAny_bind (wpAny_seqItems Of rfl ?_)
    refine wpAny_bind (wpAny_newTuple ?_)
    have zz : hf.objs.size = st.heap.objs.size := by rw [sf.1, se.1, sd.1, sc.1, sb.1, sa.1]
    have zf : ZSt hf z TI TO .ellipsis g' := sf.extBut _ _ D.TOz.symm (se.extBut _ _ D.i2z.symm (sd.extBut _ _ D.TOz.symm (sc.extBut _ _ D.i1z.symm zb)))
    have kf : ∀ b o, b ≠ z → b ≠ TO → b ≠ j1 → b ≠ j2 → st.heap.get? b = some o → hf.get? b = some o := fun b o n1 n2 n3 n4 e => sf.extBut _ _ n2 (se.extBut _ _ n4 (sad n1 n3 n2 e))
    have m1f : hf.IsListIter j1 a1 (n1 + 1) := m1c.at fun o e => sf.extBut _ _ D.TOi1.symm (se.extBut _ _ D.i12 (sd.extBut _ _ D.TOi1.symm e))
    have m2f : hf.IsListIter j2 a2 (n2 + 1) := m2e.at fun o e => sf.extBut _ _ D.TOi2.symm e
    have zlt : z < hf.objs.size := Heap.lt_size zf
    show wpAny _ _ (Builtin.SmallTypes.ownedTupleHandOut (.ref z) (.ref hf.objs.size) >>= _) _ _ _
    refine wpAny_bind ?_
    unfold Builtin.SmallTypes.ownedTupleHandOut
    have zg : ZSt (hf.push { cls := .type "tuple", data := .seq #[x, y] }) z TI TO .ellipsis g' := Heap.get?_push_of_some _ zf
    refine wpAny_bind (wpAny_setField_rec zg (by simp) fun hh zh sh => ?_)
    replace zh : ZSt hh z TI TO (rawInt hf.objs.size) g' := zh
    refine wpAny_setField_rec zh (by simp) fun hi zi si => ?_
    replace zi : ZSt hi z TI TO (rawInt hf.objs.size) false := zi
    have up : ∀ b o, b ≠ z → hf.get? b = some o → hi.get? b = some o := fun b o n e => si.extBut _ _ n (sh.extBut _ _ n (Heap.get?_push_of_some _ e))
    have Ti : IsPair hi hf.objs.size x y := si.extBut _ _ (Nat.ne_of_gt zlt) (sh.extBut _ _ (Nat.ne_of_gt zlt) (Heap.get?_push_size _ rfl))
    have zzi : hi.objs.size = hf.objs.size + 1 := by rw [si.1, sh.1, Heap.size_push]
    rw [zz] at Ti zzi
    refine wpAny_pure ⟨_, rfl, ?_⟩
    show R (.ref hf.objs.size) _
    rw [zz]
    exact k hi _ _ zi (.inr ⟨_, rfl⟩) ⟨x, y, up _ _ D.TOz Of⟩ (m1f.at fun o e => up _ o D.i1z e) (m2f.at fun o e => up _ o D.i2z e) Ti zzi fun b o n1 n2 n3 n4 e => up b o n1 (kf b o n1 n2 n3 n4 e)
  | false =>
    simp only [Bool.false_eq_true, if_false]
    refine wpAny_bind ?_
    rw [← Array.forIn_toList]
    simp only [List.forIn_cons, List.forIn_nil]
    refine wpAny_bind (wpAny_bind (wpAny_holding ?_))
    show wpAny _ _ (Builtin.SmallTypes.nextOf (.ref j1) >>= _) _ _ _
    refine wpAny_bind (wpAny_nextOf_list_item (s := { st with heap := ha }) (m1.at fun o e => sa.extBut _ _ D.i1z e) (la.at fun o e => sa.extBut _ _ D.l1z e) hx fun hb m1b sb => wpAny_pure ?_)
    refine wpAny_pure ?_
    refine wpAny_bind (wpAny_bind (wpAny_holding ?_))
    show wpAny _ _ (Builtin.SmallTypes.nextOf (.ref j2) >>= _) _ _ _
    refine wpAny_bind (wpAny_nextOf_list_item (s := { st with heap := hb }) (m2.at fun o e => sb.extBut _ _ D.i12.symm (sa.extBut _ _ D.i2z e)) (lb.at fun o e => sb.extBut _ _ D.l2i1 (sa.extBut _ _ D.l2z e)) hy fun hc m2c sc => wpAny_pure ?_)
    refine wpAny_pure (wpAny_pure ?_)
    show wpAny _ _ (newTuple [x, y] >>= _) _ _ _
    refine wpAny_bind (wpAny_newTuple ?_)
    have zz : hc.objs.size = st.heap.objs.size := by rw [sc.1, sb.1, sa.1]
    have zc : ZSt hc z TI TO q g' := sc.extBut _ _ D.i2z.symm (sb.extBut _ _ D.i1z.symm za)
    have kc : ∀ b o, b ≠ z → b ≠ j1 → b ≠ j2 → st.heap.get? b = some o → hc.get? b = some o := fun b o n1 n2 n3 e => sc.extBut _ _ n3 (sb.extBut _ _ n2 (sa.extBut _ _ n1 e))
    refine wpAny_pure ⟨_, rfl, ?_⟩
    show R (.ref hc.objs.size) _
    have Tp : IsPair (hc.push { cls := .type "tuple", data := .seq #[x, y] }) hc.objs.size x y := Heap.get?_push_size _ rfl
    have zp : (hc.push { cls := .type "tuple", data := .seq #[x, y] }).objs.size = hc.objs.size + 1 := Heap.size_push ..
    have Oc : IsPair hc TO u v := kc _ _ D.TOz D.TOi1 D.TOi2 hO
    rw [zz] at Tp zp ⊢
    exact k _ _ _ (Heap.get?_push_of_some _ zc) zo ⟨u, v, Heap.get?_push_of_some _ Oc⟩ (m1b.at fun o e => Heap.get?_push_of_some _ (sc.extBut _ _ D.i12 e)) (m2c.at fun o e => Heap.get?_push_of_some _ e) Tp zp fun b o n1 n2 n3 n4 e => Heap.get?_push_of_some _ (kc b o n1 n3 n4 e)
theorem zEnd {z TI TO j1 j2 a1 a2 : Addr} {n1 n2 : Nat} {xs ys : Array Value} {u v q : Value} {g : Bool} {R : Fin → Shared → Prop} (hh : Ar.handled = none) (D : ZipApart z TI TO j1 j2 a1 a2)
    (hz : ZSt st.heap z TI TO q g) (zo : ZOk q) (hI : IsPair st.heap TI (.ref j1) (.ref j2)) (hO : IsPair st.heap TO u v)
    (m1 : st.heap.IsListIter j1 a1 n1) (m2 : st.heap.IsListIter j2 a2 n2) (la : st.heap.IsList a1 xs) (lb : st.heap.IsList a2 ys) (hn : xs[n1]? = none ∨ ys[n2]? = none)
    (k : ∀ h' e, (∀ b o, b ≠ z → b ≠ TO → b ≠ j1 → b ≠ j2 → st.heap.get? b = some o → h'.get? b = some o) → (∃ o, h'.get? e = some o ∧ o.cls = .type "StopIteration") → Er (.ref e) { st with heap := h' }) :
    wpAny (model pr wo) Ar (Builtin.«zip.__next__» ⟨[.ref z], []⟩) R Er st := by
  show wpAny _ _ (field (.ref z) 2 >>= _) _ _ _
  refine wpAny_bind (wpAny_field hz rfl (x := .bool false) rfl ?_)
  show wpAny _ _ (field (.ref z) 3 >>= _) _ _ _
  refine wpAny_bind (wpAny_field hz rfl (x := .ref TI) rfl ?_)
  refine wpAny_bind (wpAny_seqItems hI rfl ?_)
  show wpAny _ _ (Builtin.SmallTypes.ownedTupleIsFree (.ref z) >>= _) _ _ _
  refine wpAny_bind (zFree hz zo fun b ha g' za sa => ?_)
  cases b with
  | true =>
    simp only [if_true]
    refine wpAny_bind (wpAny_rule ?_)
    refine wpAny_bind (wpAny_field za rfl (x := .ref TO) rfl ?_)
    refine wpAny_bind (wpAny_setField_rec za (by simp) fun hb zb sb => ?_)
    replace zb : ZSt hb z TI TO .ellipsis g' := zb
    have sab : ∀ {b o}, b ≠ z → st.heap.get? b = some o → hb.get? b = some o := fun n e => sb.extBut _ _ n (sa.extBut _ _ n e)
    refine wpAny_bind ?_
    simp only [List.zipIdx_cons, List.zipIdx_nil, List.forIn_cons, List.forIn_nil]
    refine wpAny_bind (wpAny_bind (wpAny_onRaise ?_))
    show wpAny _ _ (Builtin.SmallTypes.nextOf (.ref j1) >>= _) _ _ _
    cases hx : xs[n1]? with
    | none =>
      refine wpAny_bind (wpAny_nextOf_list_end hh (m1.at fun o e => sab D.i1z e) (la.at fun o e => sab D.l1z e) hx fun hc ex sc hex => ?_)
      obtain ⟨oe, hoe, hce⟩ := hex
      have zc : ZSt hc z TI TO .ellipsis g' := sc _ _ D.i1z.symm zb
      have nez : ex ≠ z := fun w => by subst w; rw [zc] at hoe; cases hoe; simp at hce
      exact wpAny_setField_rec zc (by simp) fun hd _ sd => k hd ex (fun b o n1 _ n3 _ e => sd.extBut _ _ n1 (sc _ _ n3 (sab n1 e))) ⟨oe, sd.extBut _ _ nez hoe, hce⟩
    | some x =>
      have hy : ys[n2]? = none := by rcases hn with w | w; rw [hx] at w; cases w; exact w
      refine wpAny_bind (wpAny_nextOf_list_item (m1.at fun o e => sab D.i1z e) (la.at fun o e => sab D.l1z e) hx fun hc m1c sc => wpAny_pure ?_)
      have Oc : IsPair hc TO u v := sc.extBut _ _ D.TOi1 (sab D.TOz hO)
      refine wpAny_bind (wpAny_seqItems Oc rfl ?_)
      refine wpAny_bind (wpAny_updateSeq_pair Oc fun hd Od sd => ?_)
      refine wpAny_bind (wpAny_letGo (wpAny_pure ?_))
      refine wpAny_bind (wpAny_bind (wpAny_onRaise ?_))
      show wpAny _ _ (Builtin.SmallTypes.nextOf (.ref j2) >>= _) _ _ _
      have sad : ∀ {b o}, b ≠ z → b ≠ j1 → b ≠ TO → st.heap.get? b = some o → hd.get? b = some o := fun n1 n2 n3 e => sd.extBut _ _ n3 (sc.extBut _ _ n2 (sab n1 e))
      refine wpAny_bind (wpAny_nextOf_list_end hh (m2.at fun o e => sad D.i2z D.i12.symm D.TOi2.symm e) (lb.at fun o e => sad D.l2z D.l2i1 D.l2TO e) hy fun he ex se hex => ?_)
      obtain ⟨oe, hoe, hce⟩ := hex
      have ze : ZSt he z TI TO .ellipsis g' := se _ _ D.i2z.symm (sd.extBut _ _ D.TOz.symm (sc.extBut _ _ D.i1z.symm zb))
      have nez : ex ≠ z := fun w => by subst w; rw [ze] at hoe; cases hoe; simp at hce
      exact wpAny_setField_rec ze (by simp) fun hf _ sf => k hf ex (fun b o n1 n2 n3 n4 e => sf.extBut _ _ n1 (se _ _ n4 (sad n1 n3 n2 e))) ⟨oe, sf.extBut _ _ nez hoe, hce⟩
  | false =>
    simp only [Bool.false_eq_true, if_false]
    refine wpAny_bind ?_
    rw [← Array.forIn_toList]
    simp only [List.forIn_cons, List.forIn_nil]
    refine wpAny_bind (wpAny_bind (wpAny_holding ?_))
    show wpAny _ _ (Builtin.SmallTypes.nextOf (.ref j1) >>= _) _ _ _
    cases hx : xs[n1]? with
    | none =>
      refine wpAny_bind (wpAny_nextOf_list_end (s := { st with heap := ha }) hh (m1.at fun o e => sa.extBut _ _ D.i1z e) (la.at fun o e => sa.extBut _ _ D.l1z e) hx fun hb ex sb hex => ?_)
      exact k hb ex (fun b o n1 _ n3 _ e => sb _ _ n3 (sa.extBut _ _ n1 e)) hex
    | some x =>
      have hy : ys[n2]? = none := by rcases hn with w | w; rw [hx] at w; cases w; exact w
      refine wpAny_bind (wpAny_nextOf_list_item (s := { st with heap := ha }) (m1.at fun o e => sa.extBut _ _ D.i1z e) (la.at fun o e => sa.extBut _ _ D.l1z e) hx fun hb m1b sb => wpAny_pure ?_)
      refine wpAny_pure ?_
      refine wpAny_bind (wpAny_bind (wpAny_holding ?_))
      show wpAny _ _ (Builtin.SmallTypes.nextOf (.ref j2) >>= _) _ _ _
      refine wpAny_bind (wpAny_nextOf_list_end (s := { st with heap := hb }) hh (m2.at fun o e => sb.extBut _ _ D.i12.symm (sa.extBut _ _ D.i2z e)) (lb.at fun o e => sb.extBut _ _ D.l2i1 (sa.extBut _ _ D.l2z e)) hy fun hc ex sc hex => ?_)
      exact k hc ex (fun b o n1 _ n3 n4 e => sc _ _ n4 (sb.extBut _ _ n3 (sa.extBut _ _ n1 e))) hex
end
end Cf

namespace Cf
open PySem PySem.Spec PyProof.Rows L2 Evl
section
variable {pr : Program} {wo : World} {Ar : Around} {Er : Value → Shared → Prop} {st : Shared}
theorem zNext {z TI TO j1 j2 a1 a2 : Addr} {n1 n2 : Nat} {xs ys : Array Value} {x y u v q : Value} {g : Bool} {R : Value → Shared → Prop} (D : ZipApart z TI TO j1 j2 a1 a2)
    (hz : ZSt st.heap z TI TO q g) (zo : ZOk q) (hI : IsPair st.heap TI (.ref j1) (.ref j2)) (hO : IsPair st.heap TO u v)
    (m1 : st.heap.IsListIter j1 a1 n1) (m2 : st.heap.IsListIter j2 a2 n2) (la : st.heap.IsList a1 xs) (lb : st.heap.IsList a2 ys) (hx : xs[n1]? = some x) (hy : ys[n2]? = some y)
    (k : ∀ h' q' g', ZSt h' z TI TO q' g' → ZOk q' → (∃ u v, IsPair h' TO u v) → h'.IsListIter j1 a1 (n1 + 1) → h'.IsListIter j2 a2 (n2 + 1) → IsPair h' st.heap.objs.size x y → h'.objs.size = st.heap.objs.size + 1 →
      (∀ b o, b ≠ z → b ≠ TO → b ≠ j1 → b ≠ j2 → st.heap.get? b = some o → h'.get? b = some o) → R (.ref st.heap.objs.size) { st with heap := h' }) :
    wpAny (model pr wo) Ar (Builtin.SmallTypes.nextOf (.ref z)) R Er st := by
  have hT : st.TypeIs (.ref z) "zip" := ⟨_, hz, rfl⟩
  unfold Builtin.SmallTypes.nextOf
  exact wpAny_bind (wpAny_callSpecial?_slot (name := Str.ofString "__next__") hT F.slot_zip_next (wpAny_call_entry F.slot_zip_next hT F.entry_zip_next
    (zGo D hz zo hI hO m1 m2 la lb hx hy fun h' q' g' a b c d e f i j => wpAny_pure (k h' q' g' a b c d e f i j)) (F.args_zip_next_1 _)))
theorem zStop {z TI TO j1 j2 a1 a2 : Addr} {n1 n2 : Nat} {xs ys : Array Value} {u v q : Value} {g : Bool} {R : Value → Shared → Prop} (hh : Ar.handled = none) (D : ZipApart z TI TO j1 j2 a1 a2)
    (hz : ZSt st.heap z TI TO q g) (zo : ZOk q) (hI : IsPair st.heap TI (.ref j1) (.ref j2)) (hO : IsPair st.heap TO u v)
    (m1 : st.heap.IsListIter j1 a1 n1) (m2 : st.heap.IsListIter j2 a2 n2) (la : st.heap.IsList a1 xs) (lb : st.heap.IsList a2 ys) (hn : xs[n1]? = none ∨ ys[n2]? = none)
    (k : ∀ h' e, (∀ b o, b ≠ z → b ≠ TO → b ≠ j1 → b ≠ j2 → st.heap.get? b = some o → h'.get? b = some o) → (∃ o, h'.get? e = some o ∧ o.cls = .type "StopIteration") → Er (.ref e) { st with heap := h' }) :
    wpAny (model pr wo) Ar (Builtin.SmallTypes.nextOf (.ref z)) R Er st := by
  have hT : st.TypeIs (.ref z) "zip" := ⟨_, hz, rfl⟩
  unfold Builtin.SmallTypes.nextOf
  exact wpAny_bind (wpAny_callSpecial?_slot (name := Str.ofString "__next__") hT F.slot_zip_next (wpAny_call_entry F.slot_zip_next hT F.entry_zip_next
    (zEnd hh D hz zo hI hO m1 m2 la lb hn k) (F.args_zip_next_1 _)))
/-- enumerate's own step, whatever its iterator gives -/
theorem eGo {e z : Addr} {i : Int} {old : Value} {R : Value → Shared → Prop} (he : IsEnum st.heap e z i old)
    (hn : wpAny (model pr wo) Ar (Builtin.SmallTypes.nextOf (.ref z)) (fun x s1 => IsEnum s1.heap e z i old ∧
      ∀ h', IsEnumOut h' e z (i + 1) x s1.heap.objs.size → h'.get? s1.heap.objs.size = some { cls := .type "tuple", data := .seq #[.int i s1.toks, x] } → h'.objs.size = s1.heap.objs.size + 1 →
        (∀ b o, b ≠ e → s1.heap.get? b = some o → h'.get? b = some o) → R (.ref s1.heap.objs.size) { s1 with heap := h', toks := s1.toks + 1 }) Er st) :
    wpAny (model pr wo) Ar (Builtin.«enumerate.__next__» ⟨[.ref e], []⟩) (fun fin s' => ∃ r, fin = .done (.ret r) ∧ R r s') Er st := by
  show wpAny _ _ (field (.ref e) 2 >>= _) _ _ _
  refine wpAny_bind (wpAny_field he rfl (x := .ref z) rfl ?_)
  refine wpAny_bind (thn hn fun x s1 hq => ?_)
  obtain ⟨e1, k⟩ := hq
  obtain ⟨hp, gg, dd, tk, os⟩ := s1
  replace e1 : IsEnum hp e z i old := e1
  replace k : ∀ h', IsEnumOut h' e z (i + 1) x hp.objs.size → h'.get? hp.objs.size = some { cls := .type "tuple", data := .seq #[.int i tk, x] } → h'.objs.size = hp.objs.size + 1 → (∀ b o, b ≠ e → hp.get? b = some o → h'.get? b = some o) → R (.ref hp.objs.size) ⟨h', gg, dd, tk + 1, os⟩ := k
  show wpAny _ _ (field (.ref e) 3 >>= _) _ _ ⟨hp, gg, dd, tk, os⟩
  refine wpAny_bind (wpAny_field e1 rfl (x := rawInt i) rfl ?_)
  show wpAny _ _ (field (.ref e) 4 >>= _) _ _ ⟨hp, gg, dd, tk, os⟩
  refine wpAny_bind (wpAny_field e1 rfl (x := .none) rfl ?_)
  show wpAny _ _ (mkInt i >>= _) _ _ ⟨hp, gg, dd, tk, os⟩
  refine wpAny_bind (wpAny_mkInt ?_)
  show wpAny _ _ (setField (.ref e) 3 (rawInt (i + 1)) >>= _) _ _ ⟨hp, gg, dd, tk + 1, os⟩
  refine wpAny_bind (wpAny_setField_rec e1 (by simp) fun ha ea sa => ?_)
  replace sa : Heap.SameBut e hp ha := sa
  replace ea : IsEnum ha e z (i + 1) old := ea
  show wpAny _ _ (setField (.ref e) 4 .none >>= _) _ _ ⟨ha, gg, dd, tk + 1, os⟩
  refine wpAny_bind (wpAny_setField_rec ea (by simp) fun hb eb sb => ?_)
  replace sb : Heap.SameBut e ha hb := sb
  replace eb : IsEnum hb e z (i + 1) old := eb
  show wpAny _ _ (newTuple [.int i tk, x] >>= _) _ _ ⟨hb, gg, dd, tk + 1, os⟩
  refine wpAny_bind (wpAny_newTuple ?_)
  have zz : hb.objs.size = hp.objs.size := by rw [sb.1, sa.1]
  have elt : e < hp.objs.size := Heap.lt_size e1
  have ec : IsEnum (hb.push { cls := .type "tuple", data := .seq #[.int i tk, x] }) e z (i + 1) old := Heap.get?_push_of_some _ eb
  have tc : (hb.push { cls := .type "tuple", data := .seq #[.int i tk, x] }).get? hp.objs.size = some { cls := .type "tuple", data := .seq #[.int i tk, x] } := by
    rw [← zz]
    exact Heap.get?_push_size _ rfl
  have zc : (hb.push { cls := .type "tuple", data := .seq #[.int i tk, x] }).objs.size = hp.objs.size + 1 := by rw [Heap.size_push, zz]
  have kc : ∀ b o, b ≠ e → hp.get? b = some o → (hb.push { cls := .type "tuple", data := .seq #[.int i tk, x] }).get? b = some o := fun b o n q => Heap.get?_push_of_some _ (sb.extBut b o n (sa.extBut b o n q))
  generalize hb.push { cls := .type "tuple", data := .seq #[.int i tk, x] } = hc at ec tc zc kc
  show wpAny _ _ (Builtin.SmallTypes.ownedTupleIsFree (.ref e) >>= _) _ _ ⟨hc, gg, dd, tk + 1, os⟩
  rw [zz]
  refine wpAny_bind ?_
  unfold Builtin.SmallTypes.ownedTupleIsFree
  refine wpAny_bind (wpAny_field ec rfl (x := .none) rfl (wpAny_pure ?_))
  simp only [if_true]
  refine wpAny_bind (wpAny_rule ?_)
  refine wpAny_bind (wpAny_field ec rfl (x := old) rfl ?_)
  refine wpAny_bind (wpAny_setField_rec ec (by simp) fun hd ed sd => ?_)
  replace sd : Heap.SameBut e hc hd := sd
  replace ed : IsEnum hd e z (i + 1) x := ed
  show wpAny _ _ (Builtin.SmallTypes.ownedTupleHandOut (.ref e) (.ref hp.objs.size) >>= _) _ _ ⟨hd, gg, dd, tk + 1, os⟩
  refine wpAny_bind ?_
  unfold Builtin.SmallTypes.ownedTupleHandOut
  refine wpAny_bind (wpAny_setField_rec ed (by simp) fun hf ef sf => ?_)
  replace sf : Heap.SameBut e hd hf := sf
  replace ef : IsEnumOut hf e z (i + 1) x hp.objs.size := ef
  refine wpAny_setField_rec ef (by simp) fun hg eg sg => ?_
  replace sg : Heap.SameBut e hf hg := sg
  replace eg : IsEnumOut hg e z (i + 1) x hp.objs.size := eg
  have kg : ∀ b o, b ≠ e → hc.get? b = some o → hg.get? b = some o := fun b o n q => sg.extBut b o n (sf.extBut b o n (sd.extBut b o n q))
  refine wpAny_bind (wpAny_letGo (wpAny_pure ⟨_, rfl, k hg eg (kg _ _ (Nat.ne_of_gt elt) tc) ?_ fun b o n q => kg b o n (kc b o n q)⟩))
  rw [sg.1, sf.1, sd.1, zc]
end
end Cf

namespace Cf
open PySem PySem.Spec PyProof.Rows L2 Evl
/-- each turn: the place and a new pair, in a new pair -/
def ItEz (K : PySem.W.Frag) (a b : Addr) : It :=
  ⟨fun i H => ∃ (xs ys : List V) (x y : V), SqL K H a xs ∧ SqL K H b ys ∧ xs[i]? = some x ∧ ys[i]? = some y,
    fun i H v H' => ∃ T1 T2 x y, v = .ref T2 ∧ H T1 = none ∧ H T2 = none ∧ T1 ≠ T2 ∧ H' = upd (upd H T1 (.tup [x, y])) T2 (.tup [.int (i : Nat), .ref T1]) ∧ (∀ xs, SqL K H a xs → xs[i]? = some x) ∧ ∀ ys, SqL K H b ys → ys[i]? = some y,
    fun i H => ∃ xs ys : List V, SqL K H a xs ∧ SqL K H b ys ∧ (xs.length ≤ i ∨ ys.length ≤ i)⟩
structure EApart (e z TI TO j1 j2 a b : Addr) : Prop where
  z : e ≠ z
  TI : e ≠ TI
  TO : e ≠ TO
  j1 : e ≠ j1
  j2 : e ≠ j2
theorem turn_ez {P : Program} {w : World} {K : PySem.W.Frag} {elts : List Expr} {kk : Nat} {tpos : Pos} {e z TI TO j1 j2 a b : Addr} (D : ZipApart z TI TO j1 j2 a b) (Ee : EApart e z TI TO j1 j2 a b) :
    Turn P w K (.Tuple elts kk tpos) (ItEz K a b) [e, z, TI, TO, j1, j2] e (fun i h => (∃ old, IsEnum h e z ((i : Nat) : Int) old) ∧ (∃ q g, ZSt h z TI TO q g ∧ ZOk q) ∧ IsPair h TI (.ref j1) (.ref j2) ∧ (∃ u v, IsPair h TO u v) ∧ h.IsListIter j1 a i ∧ h.IsListIter j2 b i) where
  mem := by simp
  obj := fun i h q c hc => by
    obtain ⟨⟨old, he⟩, ⟨q, g, hz, _⟩, hI, ⟨u, v, hO⟩, ⟨o1, f1, _, d1⟩, ⟨o2, f2, _, d2⟩⟩ := q
    have e' : c = e ∨ c = z ∨ c = TI ∨ c = TO ∨ c = j1 ∨ c = j2 := by simpa using hc
    rcases e' with r | r | r | r | r | r
    · rw [r]
      exact ⟨_, he, fun v q => nomatch q⟩
    · rw [r]
      exact ⟨_, hz, fun v q => nomatch q⟩
    · rw [r]
      exact ⟨_, hI, fun v q => nomatch q⟩
    · rw [r]
      exact ⟨_, hO, fun v q => nomatch q⟩
    · rw [r]
      exact ⟨o1, f1, fun v q => by rw [d1] at q; cases q⟩
    · rw [r]
      exact ⟨o2, f2, fun v q => by rw [d2] at q; cases q⟩
  keep := fun i h h' q k => by
    obtain ⟨⟨old, he⟩, ⟨q, g, hz, zo⟩, hI, ⟨u, v, hO⟩, h1, h2⟩ := q
    exact ⟨⟨old, k e (by simp) _ he⟩, ⟨q, g, k z (by simp) _ hz, zo⟩, k TI (by simp) _ hI, ⟨u, v, k TO (by simp) _ hO⟩, h1.at fun o r => k j1 (by simp) o r, h2.at fun o r => k j2 (by simp) o r⟩
  item := by
    intro X hP hw hK hc i pins s σ H E I hf q hg
    subst hP hw hK
    obtain ⟨⟨old, he⟩, ⟨q, g, hz, zo⟩, hI, ⟨u, v, hO⟩, h1, h2⟩ := q
    obtain ⟨xs, ys, x, y, hqx, hqy, hx, hy⟩ := hg
    obtain ⟨its, rv, p, _⟩ := I.list hqx
    obtain ⟨its2, rv2, p2, _⟩ := I.list hqy
    obtain ⟨c, hu, ru⟩ := rv.get hx
    obtain ⟨d, hu2, ru2⟩ := rv2.get hy
    have hTy : s.TypeIs (.ref e) "enumerate" := ⟨_, he, rfl⟩
    have zlt : z < s.heap.objs.size := Heap.lt_size hz
    have elt : e < s.heap.objs.size := Heap.lt_size he
    have flt : ∀ c, c ∈ [e, z, TI, TO, j1, j2] → c < s.heap.objs.size := fun c hcm => by
      have e' : c = e ∨ c = z ∨ c = TI ∨ c = TO ∨ c = j1 ∨ c = j2 := by simpa using hcm
      rcases e' with r | r | r | r | r | r
      · rw [r]; exact elt
      · rw [r]; exact zlt
      · rw [r]; exact Heap.lt_size hI
      · rw [r]; exact Heap.lt_size hO
      · rw [r]; obtain ⟨_, q1, _⟩ := h1; exact Heap.lt_size q1
      · rw [r]; obtain ⟨_, q1, _⟩ := h2; exact Heap.lt_size q1
    unfold pyNext
    refine wpAny_bind (wpAny_attempt (wpAny_callSpecial?_slot (name := Str.ofString "__next__") hTy F.slot_enumerate_next (wpAny_call_entry F.slot_enumerate_next hTy F.entry_enumerate_next
      (eGo he (zNext D hz zo hI hO h1 h2 p.isList p2.isList (x := c) (y := d) (by simpa using hu) (by simpa using hu2) fun ha q' g' za zo' Oa h1a h2a Ta sza ka => ⟨ka e _ Ee.z Ee.TO Ee.j1 Ee.j2 he, fun hb eb Tb szb kb => wpAny_pure ?_⟩)) (F.args_enumerate_next_1 _))))
    have z2 : ha.objs.size = s.heap.objs.size + 1 := sza
    have n2e : ha.objs.size ≠ e := by rw [z2]; exact Nat.ne_of_gt (Nat.lt_succ_of_lt elt)
    have nf2 : ∀ b, b ∈ [e, z, TI, TO, j1, j2] → b ≠ ha.objs.size := fun b hb => by rw [z2]; exact Nat.ne_of_lt (Nat.lt_succ_of_lt (flt b hb))
    refine ⟨_, rfl, wpAny_letOwnedTupleGo_enum (s := { s with heap := hb, toks := s.toks + 1 }) eb fun hc ec sc => ?_⟩
    have kc : ∀ b o, b ≠ e → ha.get? b = some o → hc.get? b = some o := fun b o n q => (sc.2 b n).trans (kb b o n q)
    have new1 : ObjOk X.prog X.w (upd H s.heap.objs.size (.tup [x, y])) ha s.heap.objs.size (.tup [x, y]) := ⟨by show 2 ≤ sizeLine; decide, [c, d], .cons ru (.cons ru2 .nil), ⟨_, Ta, rfl, _, rfl⟩⟩
    have I1 : Inv X pins σ (upd H s.heap.objs.size (.tup [x, y])) { s with heap := ha } :=
      I.turnedNew (t' := s.toks) (ch := [e, z, TI, TO, j1, j2]) (fun b o nb q => ka b o (fun r => nb (by simp [r])) (fun r => nb (by simp [r])) (fun r => nb (by simp [r])) (fun r => nb (by simp [r])) q) hf (Nat.le_refl _) new1
    have nf : ∀ b, b ∈ [e, z, TI, TO, j1, j2] → b ≠ s.heap.objs.size := fun b hb => Nat.ne_of_lt (flt b hb)
    have f1 : ∀ b ∈ [e, z, TI, TO, j1, j2], FpOk X pins (upd H s.heap.objs.size (.tup [x, y])) b := fun b hb => ⟨by rw [upd_ne (nf b hb)]; exact (hf b hb).1, (hf b hb).2⟩
    have Tc : hc.get? ha.objs.size = some { cls := .type "tuple", data := .seq #[.int i s.toks, .ref s.heap.objs.size] } := (sc.2 _ n2e).trans Tb
    have new2 : ObjOk X.prog X.w (upd (upd H s.heap.objs.size (.tup [x, y])) ha.objs.size (.tup [.int (i : Nat), .ref s.heap.objs.size])) hc ha.objs.size (.tup [.int (i : Nat), .ref s.heap.objs.size]) :=
      ⟨by show 2 ≤ sizeLine; decide, [.int i s.toks, .ref s.heap.objs.size], .cons ⟨_, rfl⟩ (.cons rfl .nil), ⟨_, Tc, rfl, _, rfl⟩⟩
    have I2 : Inv X pins σ (upd (upd H s.heap.objs.size (.tup [x, y])) ha.objs.size (.tup [.int (i : Nat), .ref s.heap.objs.size])) { s with heap := hc, toks := s.toks + 1 } :=
      I1.turnedNew (t' := s.toks + 1) (ch := [e, z, TI, TO, j1, j2]) (fun b o nb q => kc b o (fun r => nb (by simp [r])) q) f1 (Nat.le_refl _) new2
    have fr : H s.heap.objs.size = none := I.hok.fresh (Nat.le_refl _)
    have n12 : s.heap.objs.size ≠ ha.objs.size := by rw [z2]; exact Nat.ne_of_lt (Nat.lt_succ_self _)
    have e1 : ((i + 1 : Nat) : Int) = (i : Int) + 1 := by omega
    obtain ⟨u', v', Oa⟩ := Oa
    refine ⟨.ref ha.objs.size, _, I2, rfl, ⟨_, _, x, y, rfl, fr, I.hok.fresh (by rw [z2]; exact Nat.le_succ _), n12, rfl, fun l hl => by rw [I.list_inj hl hqx]; exact hx, fun l hl => by rw [I.list_inj hl hqy]; exact hy⟩,
      ⟨⟨_, by rw [e1]; exact ec⟩, ⟨q', g', kc _ _ (Ne.symm Ee.z) za, zo'⟩, kc _ _ (Ne.symm Ee.TI) (ka _ _ D.TIz D.TITO D.TIi1 D.TIi2 hI), ⟨u', v', kc _ _ (Ne.symm Ee.TO) Oa⟩, h1a.at fun o q => kc _ o (Ne.symm Ee.j1) q, h2a.at fun o q => kc _ o (Ne.symm Ee.j2) q⟩, fun b hb => ?_⟩
    rw [upd_ne (nf2 b hb), upd_ne (nf b hb)]
    exact (hf b hb).1
  done := by
    intro X hP hw hK hc i pins s σ H E I hf q hg
    subst hP hw hK
    obtain ⟨⟨old, he⟩, ⟨q, g, hz, zo⟩, hI, ⟨u, v, hO⟩, h1, h2⟩ := q
    obtain ⟨xs, ys, hqx, hqy, hend⟩ := hg
    obtain ⟨its, rv, p, _⟩ := I.list hqx
    obtain ⟨its2, rv2, p2, _⟩ := I.list hqy
    have l1 := rv.length
    have l2 := rv2.length
    have hn : its.toArray[i]? = none ∨ its2.toArray[i]? = none := by
      rcases hend with r | r
      · exact .inl (by simp; omega)
      · exact .inr (by simp; omega)
    have hTy : s.TypeIs (.ref e) "enumerate" := ⟨_, he, rfl⟩
    have hh : X.A.handled = none := I.ok.hd hc
    unfold pyNext
    refine wpAny_bind (wpAny_attempt (wpAny_callSpecial?_slot (name := Str.ofString "__next__") hTy F.slot_enumerate_next (wpAny_call_entry F.slot_enumerate_next hTy F.entry_enumerate_next ?_ (F.args_enumerate_next_1 _))))
    show wpAny _ _ (field (.ref e) 2 >>= _) _ _ _
    refine wpAny_bind (wpAny_field he rfl (x := .ref z) rfl ?_)
    refine wpAny_bind (zStop hh D hz zo hI hO h1 h2 p.isList p2.isList hn fun h' ex k hex => ?_)
    obtain ⟨o, ho, hcl⟩ := hex
    refine wpAny_bind (wpAny_isInstance (T := "StopIteration") (b := true) ⟨o, ho, hcl⟩ isSubtype_stop ?_)
    exact wpAny_pure ⟨rfl, I.turnedL (t' := s.toks) (ch := [e, z, TI, TO, j1, j2]) (fun b o nb q => k b o (fun r => nb (by simp [r])) (fun r => nb (by simp [r])) (fun r => nb (by simp [r])) (fun r => nb (by simp [r])) q) hf⟩
  self := fun A i s Q E q h => let ⟨⟨_, he⟩, _⟩ := q; wpAny_pyIter_enum he h
/-! ## making it -/
theorem new_enum_zip (z TI TO : Addr) :
    Meets (Builtin.«enumerate.__new__» ⟨[.type "enumerate", .ref z], []⟩) (fun _ R s => IsZip s.heap z TI TO .none ∧
      R (.ok (.ret (.ref s.heap.objs.size))) { s with heap := s.heap.push { cls := .type "enumerate", data := .fields #[.none, .bool false, .ref z, rawInt 0, .none, .none] } }) :=
  .of_wp fun prog w A R s h => by
    obtain ⟨hp, gg, dd, tk, os⟩ := s
    obtain ⟨hz, h⟩ := h
    have hsub := sub_enumerate
    have q1 : ∀ {A2 : Around} {E2 : Value → Shared → Prop} {Q2 : Value → Shared → Prop}, Q2 (.ref z) ⟨hp, gg, dd, tk, os⟩ → wpAny (model prog w) A2 (pyIter (.ref z)) Q2 E2 ⟨hp, gg, dd, tk, os⟩ := fun q => wpAny_pyIter_zip (s := ⟨hp, gg, dd, tk, os⟩) hz q
    wp_walk using q1
    refine wpAny_stack_any fun st => wpAny_pure ?_
    split
    · rename_i c _ _ _ _ _
      cases (c == Value.type "enumerate")
      · wp_walk using q1
        exact ⟨_, rfl, h⟩
      · wp_walk using q1
        exact ⟨_, rfl, h⟩
    · wp_walk using q1
      exact ⟨_, rfl, h⟩
theorem call_enum_zip {prog : Program} {w : World} {A : Around} {E : Value → Shared → Prop} {s : Shared} {z TI TO : Addr} {Q : Value → Shared → Prop} (hz : IsZip s.heap z TI TO .none)
    (h : ∀ h', IsEnum h' s.heap.objs.size z 0 .none → h'.objs.size = s.heap.objs.size + 1 → (∀ b o, s.heap.get? b = some o → h'.get? b = some o) → Q (.ref s.heap.objs.size) { s with heap := h' }) :
    wpAny (model prog w) A (call (.type "enumerate") [.ref z]) Q E s := by
  refine callType_new F.called_enumerate (by decide) (F.typeCall_enumerate_1 _) (F.newCall_enumerate_1 _) (fun obj => F.args_object_init_2 obj _) F.entry_enumerate_new
    (new_enum_zip z TI TO) ⟨hz, ?_⟩
  have z2 : IsEnum (s.heap.push { cls := .type "enumerate", data := .fields #[.none, .bool false, .ref z, rawInt 0, .none, .none] }) s.heap.objs.size z 0 .none := Heap.get?_push_size _ rfl
  exact ⟨⟨_, z2, rfl⟩, h _ z2 (Heap.size_push ..) fun b o q => Heap.get?_push_of_some _ q⟩
def iEz (K : PySem.W.Frag) (ta : TA) : TI := fun σ H R => ta σ H fun vs H1 => ∃ a b xs ys, vs = [.ref a, .ref b] ∧ SqL K H1 a xs ∧ SqL K H1 b ys ∧ R (ItEz K a b) H1
theorem pi_ez {X : Cx} {e e2 : Expr} {ta : TA} {p p2 pos pos2 tpos : Pos} {elts : List Expr} {kk : Nat} (hg : Gl X "enumerate") (hm : X.mg "enumerate" = none) (hg2 : Gl X "zip") (hm2 : X.mg "zip" = none) (ha : PA X [e, e2] ta)
    (hs : starEach [e, e2] X.env = (false, eval e X.env) :: starEach [e2] X.env := by rfl) (hpl : (backTo pos2 (starEach [e2] X.env)).any (·.1) = false := by rfl)
    (hs2 : starEach [Expr.Call (.Name "zip" p2) [e, e2] [] pos2] X.env = [(false, eval (.Call (.Name "zip" p2) [e, e2] [] pos2) X.env)] := by rfl) :
    PI X (.Tuple elts kk tpos) (.Call (.Name "enumerate" p) [.Call (.Name "zip" p2) [e, e2] [] pos2] [] pos) (iEz X.K ta) := by
  constructor
  intro pins s σ H R I h
  refine Call_ (ld_blt I hg hm boot_enumerate (PyProof.Rows.callWith_type1 ?_ hs2 rfl))
  rw [hs2]
  refine Calls.spliced_cons ?_
  refine Call_ (ld_blt I hg2 hm2 PyProof.Rows.boot_zip (PyProof.Rows.callWith_type1 (thn (ha.run pos2 pins s σ H _ I h) fun us s1 hh => ?_) hs hpl))
  obtain ⟨vs, H1, I1, r1, a, b, xs, ys, ex, hqx, hqy, q⟩ := hh
  subst ex
  cases r1 with
  | cons r rr =>
    cases rr with
    | cons r' rr =>
      cases rr
      cases r
      cases r'
      obtain ⟨its, rv, p1, _⟩ := I1.list hqx
      obtain ⟨its2, rv2, p22, _⟩ := I1.list hqy
      refine call_zip_2 p1.isList p22.isList fun h' hz hTI hTO h1 h2 hsz hk => ?_
      have nilS : ∀ {Q2 : List Value → Shared → Prop} {s2 : Shared}, Q2 [] s2 → wpAny (model X.prog X.w) X.A (spliced (backTo pos (starEach [] X.env))) Q2 X.xe s2 := fun q => Calls.spliced_nil q
      refine nilS ?_
      have hz0 : IsZip h' (s1.heap.objs.size + 4) (s1.heap.objs.size + 2) (s1.heap.objs.size + 3) .none := hz
      refine call_enum_zip (s := { s1 with heap := h' }) hz0 fun h2' he2 hsz2 hk2 => wpAny_pyIter_enum he2 ?_
      have he2 : IsEnum h2' h'.objs.size (s1.heap.objs.size + 4) 0 .none := he2
      rw [hsz] at he2 hsz2
      have I2 : Inv X pins σ H1 { s1 with heap := h2' } := I1.kept (t' := s1.toks) fun b o q => hk2 b o (hk b o q)
      have la : a < s1.heap.objs.size := p1.lt
      have lb : b < s1.heap.objs.size := p22.lt
      show PIE X pins σ (.Tuple elts kk tpos) R (.ref h'.objs.size) _
      rw [hsz]
      refine ⟨s1.heap.objs.size + 5, [s1.heap.objs.size + 5, s1.heap.objs.size + 4, s1.heap.objs.size + 2, s1.heap.objs.size + 3, s1.heap.objs.size, s1.heap.objs.size + 1], _, _, H1, rfl, I2, turn_ez (PySem.W.ktu_apart s1.heap.objs.size a b la lb) ⟨?_, ?_, ?_, ?_, ?_⟩,
        ⟨⟨.none, he2⟩, ⟨.none, false, hk2 _ _ hz, .inl rfl⟩, hk2 _ _ hTI, ⟨_, _, hk2 _ _ hTO⟩, h1.at fun o q => hk2 _ o q, h2.at fun o q => hk2 _ o q⟩, fun c hc => ?_, q⟩
      · exact Nat.ne_of_gt (Nat.lt_succ_self _)
      · exact Nat.ne_of_gt (Nat.add_lt_add_left (by decide) _)
      · exact Nat.ne_of_gt (Nat.add_lt_add_left (by decide) _)
      · exact Nat.ne_of_gt (Nat.lt_add_of_pos_right (by decide))
      · exact Nat.ne_of_gt (Nat.add_lt_add_left (by decide) _)
      have e' : c = s1.heap.objs.size + 5 ∨ c = s1.heap.objs.size + 4 ∨ c = s1.heap.objs.size + 2 ∨ c = s1.heap.objs.size + 3 ∨ c = s1.heap.objs.size ∨ c = s1.heap.objs.size + 1 := by simpa using hc
      have hle : s1.heap.objs.size ≤ c := by
        rcases e' with r | r | r | r | r | r
        · rw [r]; exact Nat.le_add_right _ _
        · rw [r]; exact Nat.le_add_right _ _
        · rw [r]; exact Nat.le_add_right _ _
        · rw [r]; exact Nat.le_add_right _ _
        · rw [r]; exact Nat.le_refl _
        · rw [r]; exact Nat.le_add_right _ _
      exact I1.fpOk hle (I1.hok.fresh hle)
/-- a loop over it -/
def YEz (xs ys : Nat → Option V) : Nat → Hp → V → Hp → Prop := fun i H v H' => ∃ T1 T2 x y, v = .ref T2 ∧ H T1 = none ∧ H T2 = none ∧ T1 ≠ T2 ∧ H' = upd (upd H T1 (.tup [x, y])) T2 (.tup [.int (i : Nat), .ref T1]) ∧ xs i = some x ∧ ys i = some y
theorem walk_ez {K : PySem.W.Frag} {a b : Addr} {xs ys : List V} {n : Nat} (hn : n = min xs.length ys.length) : Walk (ItEz K a b) n (fun H => SqL K H a xs ∧ SqL K H b ys) (YEz (fun i => xs[i]?) (fun i => ys[i]?)) := by
  subst hn
  refine ⟨fun i _ hi q => ?_, fun _ q => ⟨xs, ys, q.1, q.2, by omega⟩, fun i H v H' _ q y => ?_⟩
  · have h1 : i < xs.length := by omega
    have h2 : i < ys.length := by omega
    exact ⟨xs, ys, xs[i], ys[i], q.1, q.2, List.getElem?_eq_getElem h1, List.getElem?_eq_getElem h2⟩
  · obtain ⟨T1, T2, u, v, p1, p2, p3, p4, p5, p6, p7⟩ := y
    exact ⟨T1, T2, u, v, p1, p2, p3, p4, p5, p6 xs q.1, p7 ys q.2⟩
theorem walk_zipT {K : PySem.W.Frag} {a b : Addr} {xs ys : List V} {n : Nat} (hn : n = min xs.length ys.length) : Walk (RZ.ItzT K a b) n (fun H => SqT K H a xs ∧ SqT K H b ys) (YPair (fun i => xs[i]?) (fun i => ys[i]?)) := by
  subst hn
  refine ⟨fun i _ hi q => ?_, fun _ q => ⟨xs, ys, q.1, q.2, by omega⟩, fun i H v H' _ q y => ?_⟩
  · have h1 : i < xs.length := by omega
    have h2 : i < ys.length := by omega
    exact ⟨xs, ys, xs[i], ys[i], q.1, q.2, List.getElem?_eq_getElem h1, List.getElem?_eq_getElem h2⟩
  · obtain ⟨T, u, v, p1, p2, p3, p4, p5⟩ := y
    exact ⟨T, u, v, p1, p2, p3, p4 xs q.1, p5 ys q.2⟩
end Cf

namespace Cf
open PySem PySem.Spec PyProof.Rows L2 Evl
/-! ## names -/
def sLETTERS : Str := "abcdefghijklmnopqrstuvwxyz"
def vRESERVED : List V := [.str "not", .str "and", .str "or", .str "cast", .str "neg", .str "none"]
def vSUFFIXES : List V := sufs.map V.str
def vCONDITIONS : List V := [.str "less", .str "most", .str "not", .str "and", .str "or"]
def vPARTS : List V := [.str "expression", .str "condition"]
def CS (mg : Str → Option Value) (x : Str) (s : Str) : Prop := ∃ t, mg x = some (.str s t)
theorem pe_cs {X : Cx} {pos : Pos} {x : Str} {s : Str} (hg : Gl X x) (c : CS X.mg x s) (hd : (x == ("__debug__" : Str)) = false := by decide) : PE X (.Name x pos) (tC (.str s)) := by
  obtain ⟨t, h⟩ := c
  exact pe_glob (v := .str s) hg h ⟨_, rfl⟩ hd
def nameOk (x : Str) : Bool := !inV (.str x) vKINDS && !inV (.str x) vRESERVED && decide (1 ≤ (x.length : Int) ∧ (x.length : Int) ≤ 8) && (x.cps.toList.all fun c => decide (c ∈ sLETTERS.cps.toList))
def preName : List V → Hp → V → Prop := fun vs H v => ∃ x, vs = [.str x] ∧ nameOk x = true ∧ v = .bl true
theorem spName {H : Hp} {x : Str} (h : nameOk x = true) : SpV (PV preName) [.str x] H (.bl true) := PV.sp fun H1 e => ⟨x, rfl, h, rfl⟩
theorem rv_sign {c : Nat} {z : Str} {H : Hp} : RV (fun x y H Q => ∃ (c : Nat) (z : Str), x = .str ⟨#[c]⟩ ∧ y = .str z ∧ Q (.bl (decide (c ∈ z.cps.toList))) H) (.str ⟨#[c]⟩) (.str z) H (.bl (decide (c ∈ z.cps.toList))) := fun H1 _ _ q => ⟨_, _, rfl, rfl, q H1 (Ex.refl H1)⟩
theorem el_lcS {te : TE} {tl : TE} {σ : L2.St} {H : Hp} {j : Nat} {vs : List Nat} {z : Str} (v : Nat → V) (h : Ev tl σ H (.str z)) (hz : z.cps.size ≤ 40000) (hw : ∀ x, wipe ((wipe σ vs).set j (some x)) vs = wipe σ vs)
    (he : ∀ (i c : Nat) H1, Ex H H1 → z.cps[i]? = some c → Ev te ((wipe σ vs).set j (some (.str ⟨#[c]⟩))) H1 (v i)) : EvL (tLc (iStr tl) (gName j) tYes te vs) σ H (given z.cps.size (fun _ => true) v) := fun H0 e Q q => h H0 e _ fun H1 e1 => ⟨z, rfl, fun Dl hD =>
  lc_it walk_str (Cw H1 (fun _ => true) v Dl) ⟨hD, Ex.new hD, upd_same⟩ (fun _ _ _ _ => trivial) (fun i x G G' hi p y => by
    obtain ⟨rfl, c, hc, rfl⟩ := y
    exact ⟨hw _, cw_turn p (by omega) (fun H3 e3 Q q => q H3 (Ex.refl H3)) (fun hf => he i c H1 (e.trans e1) hc)⟩) (fun G p => q Dl G (fresh_back e1 p.1) (e1.trans p.2.1) p.2.2)⟩
theorem ev_lenS {σ : L2.St} {H : Hp} {ta : TE} {z : Str} (h : Ev ta σ H (.str z)) (hz : z.length ≤ 100000) : Ev (tCB (fun xs H Q => ∃ z, xs = [.str z] ∧ z.length ≤ sizeLine ∧ Q (.int z.length) H) (tCons ta tNil)) σ H (.int (z.length : Int)) := ev_cb (ea_cons h ea_nil) fun H1 e Q q => ⟨z, rfl, sz_of hz, q H1 (Ex.refl H1)⟩
theorem ev_allN {K : PySem.W.Frag} {σ : L2.St} {H : Hp} {ta : TE} {bs : List Bool} (h : EvL ta σ H (bs.map V.bl)) : Ev (tCB (rAll K) (tCons ta tNil)) σ H (.bl (bs.all id)) := fun H1 e Q q => h H1 e _ fun p H2 np e2 h2 => ⟨p, bs, rfl, sq_of h2, q H2 e2⟩
/-! ## the form of nodes -/
def Nd.forms : Nd → List Str
  | .var _ => ["name"] | .lit _ _ => ["number", "suffix"] | .cast _ _ => ["kind", "expression"] | .neg _ => ["expression"] | .bin _ _ _ => ["expression", "expression"] | .sh _ _ _ => ["expression", "number"] | .ite _ _ _ => ["condition", "expression", "expression"] | .cmp _ _ _ => ["expression", "expression"] | .nt _ => ["condition"] | .lg _ _ _ => ["condition", "condition"]
def CIt (K : PySem.W.Frag) (w : World) (mg : Str → Option Value) : Prop := ∃ (a : Addr) (es : Array DictEntry) (n : Nat), mg "ITEMS" = some (.ref a) ∧ KDict K w a es n ∧ ∀ nd : Nd, ∃ t : Addr, PySem.W.nsIn K a nd.word = some (some (.ref t)) ∧ ∀ H, SqT K H t (nd.forms.map V.str)
/-- the items behind the word, by their forms -/
def Rest (H : Hp) (nd : Nd) (rest : List V) : Prop :=
  match nd with
  | .var x => rest = [.str x]
  | .lit n s => rest = [.int n, .str s]
  | .cast k e => ∃ q, rest = [k.v, .ref q] ∧ TreeAt H q e
  | .neg e => ∃ q, rest = [.ref q] ∧ TreeAt H q e
  | .bin _ e f => ∃ q r, rest = [.ref q, .ref r] ∧ TreeAt H q e ∧ TreeAt H r f
  | .sh _ e k => ∃ q, rest = [.ref q, .int k] ∧ TreeAt H q e
  | .ite c e f => ∃ o q r, rest = [.ref o, .ref q, .ref r] ∧ TreeAt H o c ∧ TreeAt H q e ∧ TreeAt H r f
  | .cmp _ e f => ∃ q r, rest = [.ref q, .ref r] ∧ TreeAt H q e ∧ TreeAt H r f
  | .nt c => ∃ q, rest = [.ref q] ∧ TreeAt H q c
  | .lg _ c d => ∃ q r, rest = [.ref q, .ref r] ∧ TreeAt H q c ∧ TreeAt H r d
theorem TreeAt.rest {H : Hp} : ∀ {nd : Nd} {p : Addr}, TreeAt H p nd → ∃ rest, H p = some (.tup (.str nd.word :: rest)) ∧ Rest H nd rest
  | .var _, _, h => ⟨_, h, rfl⟩
  | .lit _ _, _, h => ⟨_, h, rfl⟩
  | .cast _ _, _, ⟨q, h, t⟩ => ⟨_, h, q, rfl, t⟩
  | .neg _, _, ⟨q, h, t⟩ => ⟨_, h, q, rfl, t⟩
  | .bin _ _ _, _, ⟨q, r, h, t, u⟩ => ⟨_, h, q, r, rfl, t, u⟩
  | .sh _ _ _, _, ⟨q, h, t⟩ => ⟨_, h, q, rfl, t⟩
  | .ite _ _ _, _, ⟨o, q, r, h, s, t, u⟩ => ⟨_, h, o, q, r, rfl, s, t, u⟩
  | .cmp _ _ _, _, ⟨q, r, h, t, u⟩ => ⟨_, h, q, r, rfl, t, u⟩
  | .nt _, _, ⟨q, h, t⟩ => ⟨_, h, q, rfl, t⟩
  | .lg _ _ _, _, ⟨q, r, h, t, u⟩ => ⟨_, h, q, r, rfl, t, u⟩
def isPart (f : Str) : Bool := inV (.str f) vPARTS
def pick : List Str → List V → List V
  | f :: fs, x :: xs => if isPart f = true then x :: pick fs xs else pick fs xs
  | _, _ => []
theorem rest_pick {H : Hp} : ∀ {nd : Nd} {rest : List V}, Rest H nd rest → rest.length = nd.forms.length ∧ ∃ qs, pick nd.forms rest = qs.map V.ref ∧ PartsAt H qs nd.parts
  | .var _, _, h => by cases h; exact ⟨rfl, [], rfl, trivial⟩
  | .lit _ _, _, h => by cases h; exact ⟨rfl, [], rfl, trivial⟩
  | .cast _ _, _, ⟨q, rfl, t⟩ => ⟨rfl, [q], rfl, t, trivial⟩
  | .neg _, _, ⟨q, rfl, t⟩ => ⟨rfl, [q], rfl, t, trivial⟩
  | .bin _ _ _, _, ⟨q, r, rfl, t, u⟩ => ⟨rfl, [q, r], rfl, t, u, trivial⟩
  | .sh _ _ _, _, ⟨q, rfl, t⟩ => ⟨rfl, [q], rfl, t, trivial⟩
  | .ite _ _ _, _, ⟨o, q, r, rfl, s, t, u⟩ => ⟨rfl, [o, q, r], rfl, s, t, u, trivial⟩
  | .cmp _ _ _, _, ⟨q, r, rfl, t, u⟩ => ⟨rfl, [q, r], rfl, t, u, trivial⟩
  | .nt _, _, ⟨q, rfl, t⟩ => ⟨rfl, [q], rfl, t, trivial⟩
  | .lg _ _ _, _, ⟨q, r, rfl, t, u⟩ => ⟨rfl, [q, r], rfl, t, u, trivial⟩
theorem pick_step : ∀ (fs : List Str) (xs : List V) (i : Nat) (f : Str) (x : V), fs[i]? = some f → xs[i]? = some x → pick (fs.take (i + 1)) (xs.take (i + 1)) = pick (fs.take i) (xs.take i) ++ (if isPart f = true then [x] else [])
  | g :: fs, y :: xs, 0, f, x, h, k => by
    cases (Option.some.inj h)
    cases (Option.some.inj k)
    simp only [List.take_succ_cons, List.take_zero, pick]
    split <;> rfl
  | g :: fs, y :: xs, i + 1, f, x, h, k => by
    have ih := pick_step fs xs i f x h k
    simp only [List.take_succ_cons, pick]
    split
    · rw [ih, List.cons_append]
    · exact ih
  | [], _, _, _, _, h, _ => nomatch h
  | _ :: _, [], _, _, _, _, k => nomatch k
theorem pick_len : ∀ (fs : List Str) (xs : List V), (pick fs xs).length ≤ fs.length
  | [], _ => by simp [pick]
  | _ :: _, [] => by simp [pick]
  | f :: fs, x :: xs => by
    have ih := pick_len fs xs
    simp only [pick]
    split <;> simp only [List.length_cons] <;> omega
theorem forms_len (nd : Nd) : 1 ≤ nd.forms.length ∧ nd.forms.length ≤ 3 := by cases nd <;> simp [Nd.forms]
/-! ## names that are not used yet -/
def seenL (ns : List Str) : List (Key × V) := ns.map fun x => (.inr x, .bl true)
theorem seen_in {ns : List Str} {x : Str} : (valV (seenL ns) (.inr x)).isSome = decide (x ∈ ns) := by
  rw [← valV_any]
  unfold seenL
  rw [List.any_map]
  by_cases h : x ∈ ns
  · rw [decide_eq_true h, List.any_eq_true]
    exact ⟨x, h, by simp⟩
  · rw [decide_eq_false h, List.any_eq_false]
    intro y hy
    simp only [Function.comp_apply, decide_eq_true_eq]
    intro z
    exact h (Sum.inr.inj z ▸ hy)
theorem seen_put {ns : List Str} {x : Str} (h : x ∉ ns) : putK (seenL ns) (.inr x) (.bl true) = seenL (ns ++ [x]) := by
  unfold putK
  rw [valV_any, seen_in, decide_eq_false h, if_neg (by decide)]
  unfold seenL
  rw [List.map_append]
  rfl
theorem seen_drop (ns : List Str) (x : Str) : dropK (seenL ns) (.inr x) = seenL (ns.filter fun y => decide (y ∉ [x])) := by
  unfold dropK seenL
  rw [List.filter_map]
  congr 1
  apply List.filter_congr
  intro y _
  simp only [Function.comp_apply, List.mem_singleton, decide_eq_decide]
  exact ⟨fun h z => h (by rw [z]), fun h z => h (Sum.inr.inj z)⟩
theorem ev_dinK {σ : L2.St} {H : Hp} {ta td : TE} {d : Addr} {ns : List Str} {x : Str} (hx : Ev ta σ H (.str x)) (hd : Ev td σ H (.ref d)) (h : H d = some (.dK (seenL ns))) : Ev (tDIn ta td) σ H (.bl (decide (x ∈ ns))) := fun H1 e Q q =>
  hx H1 e _ fun H2 e2 => hd H2 (e.trans e2) _ fun H3 e3 => ⟨d, _, rfl, DGet.k (k := .inr x) (e3 _ _ (e2 _ _ (e _ _ h))), by
    rw [seen_in]
    exact q H3 (e2.trans e3)⟩
/-- an item that fits its form -/
def FitV (H : Hp) (ns : List Str) (f : Str) (x : V) : Prop :=
  (f = "name" ∧ ∃ s, x = .str s ∧ s ∈ ns) ∨ (f = "number" ∧ ∃ n, x = .int n ∧ 0 ≤ n) ∨ (f = "suffix" ∧ ∃ s, x = .str s ∧ s ∈ sufs) ∨ (f = "kind" ∧ ∃ k : Kd, x = k.v) ∨ f = "expression" ∨ f = "condition"
def spFits : Sp := fun vs H Q _ => ∃ (fo : Str) (x : V) (d : Addr) (ns : List Str), vs = [.str fo, x, .ref d] ∧ FitV H ns fo x ∧ H d = some (.dK (seenL ns)) ∧ ∀ H', Ex H H' → Q (.bl true) H'
theorem rest_fits {H : Hp} {ns : List Str} : ∀ {nd : Nd} {rest : List V}, Rest H nd rest → nd.wf → (∀ x ∈ nd.vars, x ∈ ns) → ∀ (i : Nat) (f : Str) (x : V), nd.forms[i]? = some f → rest[i]? = some x → FitV H ns f x
  | .var v, _, h, _, hv => fun i f x => by
    cases h
    match i with
    | 0 => intro a b; cases a; cases b; exact .inl ⟨rfl, _, rfl, hv _ (List.mem_cons_self ..)⟩
    | i + 1 => intro a b; exact nomatch a
  | .lit n s, _, h, w, _ => fun i f x => by
    cases h
    match i with
    | 0 => intro a b; cases a; cases b; exact .inr (.inl ⟨rfl, _, rfl, w.1⟩)
    | 1 => intro a b; cases a; cases b; exact .inr (.inr (.inl ⟨rfl, _, rfl, w.2.2⟩))
    | i + 2 => intro a b; exact nomatch a
  | .cast k e, _, ⟨q, rfl, _⟩, _, _ => fun i f x => by
    match i with
    | 0 => intro a b; cases a; cases b; exact .inr (.inr (.inr (.inl ⟨rfl, _, rfl⟩)))
    | 1 => intro a b; cases a; exact .inr (.inr (.inr (.inr (.inl rfl))))
    | i + 2 => intro a b; exact nomatch a
  | .neg e, _, ⟨q, rfl, _⟩, _, _ => fun i f x => by
    match i with
    | 0 => intro a b; cases a; exact .inr (.inr (.inr (.inr (.inl rfl))))
    | i + 1 => intro a b; exact nomatch a
  | .bin _ e g, _, ⟨q, r, rfl, _⟩, _, _ => fun i f x => by
    match i with
    | 0 => intro a b; cases a; exact .inr (.inr (.inr (.inr (.inl rfl))))
    | 1 => intro a b; cases a; exact .inr (.inr (.inr (.inr (.inl rfl))))
    | i + 2 => intro a b; exact nomatch a
  | .sh _ e k, _, ⟨q, rfl, _⟩, w, _ => fun i f x => by
    match i with
    | 0 => intro a b; cases a; exact .inr (.inr (.inr (.inr (.inl rfl))))
    | 1 => intro a b; cases a; cases b; exact .inr (.inl ⟨rfl, _, rfl, w.2.2.1⟩)
    | i + 2 => intro a b; exact nomatch a
  | .ite c e g, _, ⟨o, q, r, rfl, _⟩, _, _ => fun i f x => by
    match i with
    | 0 => intro a b; cases a; exact .inr (.inr (.inr (.inr (.inr rfl))))
    | 1 => intro a b; cases a; exact .inr (.inr (.inr (.inr (.inl rfl))))
    | 2 => intro a b; cases a; exact .inr (.inr (.inr (.inr (.inl rfl))))
    | i + 3 => intro a b; exact nomatch a
  | .cmp _ e g, _, ⟨q, r, rfl, _⟩, _, _ => fun i f x => by
    match i with
    | 0 => intro a b; cases a; exact .inr (.inr (.inr (.inr (.inl rfl))))
    | 1 => intro a b; cases a; exact .inr (.inr (.inr (.inr (.inl rfl))))
    | i + 2 => intro a b; exact nomatch a
  | .nt c, _, ⟨q, rfl, _⟩, _, _ => fun i f x => by
    match i with
    | 0 => intro a b; cases a; exact .inr (.inr (.inr (.inr (.inr rfl))))
    | i + 1 => intro a b; exact nomatch a
  | .lg _ c d, _, ⟨q, r, rfl, _⟩, _, _ => fun i f x => by
    match i with
    | 0 => intro a b; cases a; exact .inr (.inr (.inr (.inr (.inr rfl))))
    | 1 => intro a b; cases a; exact .inr (.inr (.inr (.inr (.inr rfl))))
    | i + 2 => intro a b; exact nomatch a
def formOf (nd : Nd) : Str := if nd.isE = true then "expression" else "condition"
def preForm (K : PySem.W.Frag) : List V → Hp → V → Prop := fun vs H v => ∃ p nd x, vs = [.ref p, x] ∧ TreeAt H p nd ∧ (x = .non ∨ x = .str (formOf nd)) ∧ v = .bl true
def spItems : Sp := fun vs H Q _ => ∃ p nd d ns, vs = [.ref p, .ref d] ∧ TreeAt H p nd ∧ nd.wf ∧ (∀ x ∈ nd.vars, x ∈ ns) ∧ H d = some (.dK (seenL ns)) ∧ ∀ H', Ex H H' → Q (.bl true) H'
theorem cond_in : ∀ nd : Nd, inV (.str nd.word) vCONDITIONS = !nd.isE
  | .var _ => rfl | .lit _ _ => rfl | .cast _ _ => rfl | .neg _ => rfl | .ite _ _ _ => rfl | .nt _ => rfl
  | .bin o _ _ => by cases o <;> rfl
  | .sh b _ _ => by cases b <;> rfl
  | .cmp b _ _ => by cases b <;> rfl
  | .lg b _ _ => by cases b <;> rfl
theorem rest_len {H : Hp} {nd : Nd} {rest : List V} (h : Rest H nd rest) : rest.length = nd.forms.length := (rest_pick h).1
def spCV : Sp := fun vs H Q _ => ∃ l rows, vs = [.ref l] ∧ VarsAt H l rows ∧ rows.length ≤ 100 ∧ (∀ w ∈ rows, nameOk w.name = true) ∧ (rows.map Row.name).Nodup ∧ (∀ w ∈ rows, w.low ≤ w.high) ∧ ∀ H', Ex H H' → Q .non H'
end Cf

namespace Cf
open PySem PySem.Spec PyProof.Rows L2 Evl
/-- a dict comprehension over anything that is walked: what a turn asks, and its loop -/
abbrev DcTurn (g : TG) (tt : TT) (tk tv : TE) (vs : List Nat) (σ : L2.St) (D : Addr) (x : V) (G : Hp) (Nx : Hp → Prop) : Prop :=
  g x (wipe σ vs) G fun τ G2 => wipe τ vs = wipe σ vs ∧ tt τ G2 fun b G3 => if b = true then tk τ G3 fun y G4 => tv τ G4 fun z G5 => ∃ kvs k, y = kV k ∧ G5 D = some (.dK kvs) ∧ kvs.length < sizeLine ∧ Nx (upd G5 D (.dK (putK kvs k z))) else Nx G3
theorem dc_walk {J : It} {n : Nat} {G : Hp → Prop} {Y : Nat → Hp → V → Hp → Prop} (w : Walk J n G Y) {g : TG} {tt : TT} {tk tv : TE} {vs : List Nat} {σ : L2.St} {H1 : Hp} {D : Addr} {Qd : Hp → Prop} (Pv : Nat → Hp → Prop) (p0 : Pv 0 (upd H1 D (.dK []))) (pG : ∀ c F, c ≤ n → Pv c F → G F)
    (ps : ∀ c x F F', c < n → Pv c F → Y c F x F' → DcTurn g tt tk tv vs σ D x F' (Pv (c + 1))) (pd : ∀ F, Pv n F → Qd F) :
    ∃ W : Nat → Nat → Hp → Prop, (∃ r, W 0 r (upd H1 D (.dK []))) ∧ ∀ c r F, W c r F → (J.stop c F ∧ Qd F) ∨ (J.go c F ∧ ∃ Nx : Hp → Prop, (∀ F', Nx F' → ∃ r', r' < r ∧ W (c + 1) r' F') ∧ ∀ x F', J.yld c F x F' → DcTurn g tt tk tv vs σ D x F' Nx) := by
  refine ⟨fun c r F => r = n - c ∧ c ≤ n ∧ Pv c F, ⟨n, by simp, Nat.zero_le _, p0⟩, fun c r F hw => ?_⟩
  obtain ⟨rfl, hc, hp⟩ := hw
  rcases Nat.lt_or_eq_of_le hc with lt | eq
  · exact .inr ⟨w.goes c F lt (pG c F hc hp), Pv (c + 1), fun F' p' => ⟨n - (c + 1), by omega, rfl, lt, p'⟩, fun x F' y => ps c x F F' lt hp (w.yields c F x F' lt (pG c F hc hp) y)⟩
  · subst eq
    exact .inl ⟨w.stops F (pG c F hc hp), pd F hp⟩
/-- name = {..} on one line, the name a local -/
theorem ps_setDc {X : Cx} {j : Nat} {v : Str} {vp : Pos} {ka va tg it : Expr} {ifs : List Expr} {sc : Scope} {own : List (Str × Nat)} {cp sp : Pos} {wi : TI} {g : TG} {tt : TT} {tk tv : TE} (hc : X.calm = true) (hN : X.N.Nodup) (hj : X.N[j]? = some v) (hv : X.env.scope.names.lookup v = some .local)
    (hsw : swapsWith (.DictComp ka va [⟨tg, it, ifs, 0⟩] sc cp) (some (.Name v vp)) sp.line X.env = pure true) (hi : PI X tg it wi) (ok : BlkOk X.N X.env.scope sc own)
    (pg : ∀ (s : Shared) (H : Hp) (C : Addr) (cl : List (Str × Addr)) (fp : List Addr), PG (X.blk s H sc (compEnvC sc cl C X.env) fp) tg g) (pt : ∀ (s : Shared) (H : Hp) (C : Addr) (cl : List (Str × Addr)) (fp : List Addr), PTs (X.blk s H sc (compEnvC sc cl C X.env) fp) ifs tt)
    (pk : ∀ (s : Shared) (H : Hp) (C : Addr) (cl : List (Str × Addr)) (fp : List Addr), PE (X.blk s H sc (compEnvC sc cl C X.env) fp) ka tk) (pvl : ∀ (s : Shared) (H : Hp) (C : Addr) (cl : List (Str × Addr)) (fp : List Addr), PE (X.blk s H sc (compEnvC sc cl C X.env) fp) va tv)
    (hs : ∀ x, foldedSetIterable it X.env x = pure x := by intro _; rfl) : PS X (.Assign [.Name v vp] (.DictComp ka va [⟨tg, it, ifs, 0⟩] sc cp) sp) (tAsg (tDc wi g tt tk tv (own.map (·.2))) (gName j)) := by
  constructor
  intro pins s σ H D I h
  rw [exec_Assign_Name_used _ _ _ _ hsw]
  refine wpAny_bind (wpAny_standAt (wpAny_bind ?_))
  show wpAny _ X.A (do let _ ← comprehension (.DictComp ka va [⟨tg, it, ifs, 0⟩] sc cp) sc X.env (firstIterPos [⟨tg, it, ifs, 0⟩] cp) newDict false (eval it X.env) (some (assign (.Name v vp) X.env))) _ _ s
  have h : tDc wi g tt tk tv (own.map (·.2)) σ H (fun x H1 => gName j x σ H1 D.nx) := h
  refine wpAny_bind (thn (dc_core (Qf := fun _ s' => SP X pins D .next s') hc hN I hi ok pg pt pk pvl hs h fun L C s' m H' J q hn fpo => ?_) fun _ s' hq => wpAny_pure (wpAny_pure hq))
  show wpAny _ _ (assign (.Name v vp) X.env (.ref L)) _ _ _
  refine wpAny_assign_Name (store_ok2 (v := V.ref L) J hN hj (.inl hv) rfl (fun s2 J2 hh => ?_) (.inr hv))
  obtain ⟨a, sb, ha⟩ := hh
  obtain ⟨q0, q1, q2, q3, q4, q5⟩ := fpo
  have nCa : C ≠ a := by
    rcases ha with z | z
    · rw [z]
      exact q1
    · exact fun e => q4 v a z e.symm
  exact ⟨m, hn.sameBut sb nCa, fun h3 sb3 => ⟨_, H', J2.turned (t' := s2.toks) (fun b o hb e => (sb3.2 b hb).trans e) q0 q1 q3 q4 q5, q⟩⟩
theorem sw_dict {ka va : Expr} {gs : List Comprehension} {sc : Scope} {cp vp : Pos} {v : Str} {l : Nat} {env : Env} (hk : env.scope.kind = .function) (hv : env.scope.names.lookup v = some .local) (hl : (vp.line == cp.line) = true)
    (ha : (sc.names.any fun (n, k) => n == v && (k == .local || k == .cell)) = false) : swapsWith (.DictComp ka va gs sc cp) (some (.Name v vp)) l env = pure true := by
  have k1 : env.kindOf v = some .local := hv
  have k2 : env.blockKind = .function := by
    unfold Env.blockKind
    rw [hk]
    rfl
  unfold swapsWith
  simp only [k2, k1, ha, Expr.pos, hl]
  rfl
/-! ## the check of expressions -/
def varsL (es : List Nd) : List Str := es.flatMap Nd.vars
theorem vars_parts : ∀ {nd : Nd}, (∀ x, nd ≠ .var x) → nd.vars = varsL nd.parts
  | .var x, h => absurd rfl (h x)
  | .lit _ _, _ => rfl
  | .cast _ _, _ => by simp [Nd.vars, varsL, Nd.parts] | .neg _, _ => by simp [Nd.vars, varsL, Nd.parts] | .nt _, _ => by simp [Nd.vars, varsL, Nd.parts] | .sh _ _ _, _ => by simp [Nd.vars, varsL, Nd.parts]
  | .bin _ _ _, _ => by simp [Nd.vars, varsL, Nd.parts] | .cmp _ _ _, _ => by simp [Nd.vars, varsL, Nd.parts] | .lg _ _ _, _ => by simp [Nd.vars, varsL, Nd.parts]
  | .ite _ _ _, _ => by simp [Nd.vars, varsL, Nd.parts]
def without (ns vs : List Str) : List Str := ns.filter fun y => decide (y ∉ vs)
theorem without_two (ns a b : List Str) : without (without ns a) b = without ns (a ++ b) := by
  unfold without
  rw [List.filter_filter]
  apply List.filter_congr
  intro x _
  simp only [List.mem_append, not_or, Bool.decide_and]
  exact Bool.and_comm ..
theorem without_nil (ns : List Str) : without ns [] = ns := by
  unfold without
  rw [List.filter_eq_self]
  intro x _
  simp
theorem without_in {ns vs : List Str} {x : Str} : x ∈ without ns vs ↔ x ∈ ns ∧ x ∉ vs := by
  unfold without
  rw [List.mem_filter, decide_eq_true_iff]
theorem without_len (ns vs : List Str) : (without ns vs).length ≤ ns.length := List.length_filter_le ..
theorem varsL_take {es : List Nd} {i : Nat} {e : Nd} (h : es[i]? = some e) : varsL (es.take (i + 1)) = varsL (es.take i) ++ e.vars := by
  rw [List.take_add_one, h]
  simp [varsL]
theorem varsL_split {es : List Nd} {i : Nat} {e : Nd} (h : es[i]? = some e) : varsL es = varsL (es.take i) ++ (e.vars ++ varsL (es.drop (i + 1))) := by
  have hi := (List.getElem?_eq_some_iff.mp h).1
  have he := (List.getElem?_eq_some_iff.mp h).2
  have : es = es.take i ++ e :: es.drop (i + 1) := by
    rw [← he, ← List.drop_eq_getElem_cons hi, List.take_append_drop]
  conv => lhs; rw [this]
  simp [varsL]
theorem forms_parts : ∀ {nd : Nd}, nd.wf → (nd.forms.filter isPart) = nd.parts.map formOf
  | .var _, _ => by simp only [Nd.forms, Nd.parts, List.map_nil]; decide +kernel
  | .lit _ _, _ => by simp only [Nd.forms, Nd.parts, List.map_nil]; decide +kernel
  | .cast _ e, w => by simp only [Nd.forms, Nd.parts, List.map_cons, List.map_nil, formOf, w.1, if_true]; decide +kernel
  | .neg e, w => by simp only [Nd.forms, Nd.parts, List.map_cons, List.map_nil, formOf, w.1, if_true]; decide +kernel
  | .nt e, w => by simp only [Nd.forms, Nd.parts, List.map_cons, List.map_nil, formOf, w.1, Bool.false_eq_true, if_false]; decide +kernel
  | .sh _ e _, w => by simp only [Nd.forms, Nd.parts, List.map_cons, List.map_nil, formOf, w.1, if_true]; decide +kernel
  | .bin _ e f, w => by simp only [Nd.forms, Nd.parts, List.map_cons, List.map_nil, formOf, w.1, w.2.1, if_true]; decide +kernel
  | .cmp _ e f, w => by simp only [Nd.forms, Nd.parts, List.map_cons, List.map_nil, formOf, w.1, w.2.1, if_true]; decide +kernel
  | .lg _ e f, w => by simp only [Nd.forms, Nd.parts, List.map_cons, List.map_nil, formOf, w.1, w.2.1, Bool.false_eq_true, if_false]; decide +kernel
  | .ite c e f, w => by simp only [Nd.forms, Nd.parts, List.map_cons, List.map_nil, formOf, w.1, w.2.1, w.2.2.1, Bool.false_eq_true, if_false, if_true]; decide +kernel
def spNode (K : PySem.W.Frag) (d : Nat) : Sp := fun vs H Q _ => ∃ t p x u pt nd ns, vs = [.ref t, .ref p, x, .ref u] ∧ SqT K H t (pathV pt) ∧ pt.length + nd.size ≤ 100 ∧ TreeAt H p nd ∧ nd.wf ∧ nd.size ≤ d ∧ (x = .non ∨ x = .str (formOf nd)) ∧ H u = some (.dK (seenL ns)) ∧ (∀ y ∈ nd.vars, y ∈ ns) ∧ nd.vars.Nodup ∧ ns.length ≤ 100 ∧
  ∀ H', Bu u H H' → H' u = some (.dK (seenL (without ns nd.vars))) → Q .non H'
def spCE : Sp := fun vs H Q _ => ∃ l p rows nd, vs = [.ref l, .ref p] ∧ VarsAt H l rows ∧ rows.length ≤ 100 ∧ (rows.map Row.name).Nodup ∧ TreeAt H p nd ∧ nd.wf ∧ nd.size ≤ 30 ∧ (∀ y ∈ nd.vars, y ∈ rows.map Row.name) ∧ nd.vars.Nodup ∧ ∀ H', Ex H H' → Q .non H'
theorem word_var : ∀ {nd : Nd}, nd.word = "var" → ∃ x, nd = .var x
  | .var x, _ => ⟨x, rfl⟩
  | .lit _ _, h => absurd h (by show ("lit" : Str) ≠ "var"; decide)
  | .bin .add _ _, h => absurd h (by show ("add" : Str) ≠ "var"; decide)
  | .bin .sub _ _, h => absurd h (by show ("sub" : Str) ≠ "var"; decide)
  | .bin .mul _ _, h => absurd h (by show ("mul" : Str) ≠ "var"; decide)
  | .sh true _ _, h => absurd h (by show ("shl" : Str) ≠ "var"; decide)
  | .sh false _ _, h => absurd h (by show ("shr" : Str) ≠ "var"; decide)
  | .cmp true _ _, h => absurd h (by show ("less" : Str) ≠ "var"; decide)
  | .cmp false _ _, h => absurd h (by show ("most" : Str) ≠ "var"; decide)
  | .lg true _ _, h => absurd h (by show ("and" : Str) ≠ "var"; decide)
  | .lg false _ _, h => absurd h (by show ("or" : Str) ≠ "var"; decide)
  | .cast _ _, h => absurd h (by show ("cast" : Str) ≠ "var"; decide)
  | .neg _, h => absurd h (by show ("neg" : Str) ≠ "var"; decide)
  | .ite _ _ _, h => absurd h (by show ("if" : Str) ≠ "var"; decide)
  | .nt _, h => absurd h (by show ("not" : Str) ≠ "var"; decide)
theorem sqt_dk {K : PySem.W.Frag} {u a : Addr} {H H1 : Hp} {kvs : List (Key × V)} {xs : List V} (e : Bu u H H1) (hu : H u = some (.dK kvs)) (h : SqT K H a xs) : SqT K H1 a xs := by
  rcases h with (h | ⟨o, h⟩) | h
  · exact .inl (.inl (e _ _ (ne_of h hu fun z => by cases z) h))
  · exact .inl (.inr ⟨o, e _ _ (ne_of h hu fun z => by cases z) h⟩)
  · exact .inr h
end Cf

namespace Cf
open PySem PySem.Spec PyProof.Rows L2 Evl
/-! ## a def with defaults -/
structure Dd (K : PySem.W.Frag) (mg : Str → Option Value) (x : Str) (st : Stmt) (ps : List Str) (dvs : List V) (f : Addr) (fd : FuncData) : Prop where
  F : FunD K x x (defArgs st) (defBody st) (defScope st) dvs [] f fd
  g : mg x = some (.ref f)
  b : Binds K fd ps []
  d : ∃ ds, Vals dvs ds ∧ Binds K fd ps ds
theorem dd_ok {P : Program} {w : World} {K : PySem.W.Frag} {mg : Str → Option Value} {base : Heap} {x : Str} {st : Stmt} {f : Addr} {fd : FuncData} {N ps : List Str} {dvs : List V} {k : Nat} {sp : Sp} (D : Dd K mg x st ps dvs f fd) (S : FnScope N ps (defScope st)) (len : ∀ vs H Q E, sp vs H Q E → vs.length = ps.length)
    (hbody : ∀ (cdv : Value) (A : Around) (outer : List Env) (s : Shared) (H : Hp) (vs : List V) (Q : VK) (E : XK), A.guards = some [] → Room k (A.deeper (envOfC x (defScope st) s.heap.objs.size f cdv)) → sp vs H Q E →
      ∃ t, PSs (cxOf CX0 P w K mg base N x (defScope st) f cdv A outer s H E).nox (defBody st) t ∧ t { nx := fun _ H' => Q .non H', rt := Q } (start N vs) H) : FnG P w K mg base CX0 (k + 1) f fd ps sp := by
  obtain ⟨oc, od, dV, kV, doc, pm, an, cdv, ct, osl, rfl, lk, hcd, _, _⟩ := D.F.ex
  exact fng_of lk hcd S len fun A outer s H vs Q E hG hr hsp => by
    obtain ⟨t, h, q⟩ := hbody cdv A outer s H vs Q E hG hr hsp
    exact ⟨t, h.nox, q⟩
def Cd (P : Program) (w : World) (K : PySem.W.Frag) (mg : Str → Option Value) (base : Heap) (k : Nat) (x : Str) (ps : List Str) (dvs : List V) (sp : Sp) : Prop :=
  ∃ (f : Addr) (fd : FuncData) (ds : List Value), FnG P w K mg base CX0 k f fd ps sp ∧ mg x = some (.ref f) ∧ PySem.W.keepIn K (.ref f) = true ∧ Vals dvs ds ∧ Binds K fd ps ds
theorem Cd.mk {P : Program} {w : World} {K : PySem.W.Frag} {mg : Str → Option Value} {base : Heap} {k : Nat} {x : Str} {st : Stmt} {ps : List Str} {dvs : List V} {sp : Sp} {f : Addr} {fd : FuncData} (D : Dd K mg x st ps dvs f fd) (F : FnG P w K mg base CX0 k f fd ps sp) : Cd P w K mg base k x ps dvs sp := by
  obtain ⟨ds, r, b⟩ := D.d
  exact ⟨f, fd, ds, F, D.g, D.F.kp, r, b⟩
theorem Cl.mkd {P : Program} {w : World} {K : PySem.W.Frag} {mg : Str → Option Value} {base : Heap} {k : Nat} {x : Str} {st : Stmt} {ps : List Str} {dvs : List V} {sp : Sp} {f : Addr} {fd : FuncData} (D : Dd K mg x st ps dvs f fd) (F : FnG P w K mg base CX0 k f fd ps sp) : Cl P w K mg base k x ps sp := ⟨f, fd, F, D.g, D.F.kp, D.b⟩
section
variable {X : Cx} {j k : Nat} {ps : List Str} {sp : Sp} {x : Str} {p pos : Pos} {e : Expr} {es : List Expr} {t : TA} {dvs : List V}
theorem pe_cd (C : Cd X.prog X.w X.K X.mg X.base j x ps dvs sp) (hG : X.A.guards = some []) (hr : Room k X.A) (hg : Gl X x) (ha : PA X (e :: es) t) (hjk : j ≤ k := by decide)
    (hdb : (x == ("__debug__" : Str)) = false := by decide)
    (he : starEach (e :: es) X.env = (false, eval e X.env) :: starEach es X.env := by rfl)
    (hpl : (backTo pos (starEach es X.env)).any (·.1) = false := by rfl) : PE X (.Call (.Name x p) (e :: es) [] pos) (tCall sp dvs E0 t) := by
  obtain ⟨f, fd, ds, F, g, kp, r, b⟩ := C
  exact pe_g F hG (hr.mono hjk) hg g kp b r pass0 ha hdb he hpl
end
/-! ## all nodes in order -/
def allF : Nat → Nd → List Nat → List (List Nat × Nd)
  | 0, _, _ => []
  | d + 1, nd, pt => (pt, nd) :: (nd.parts.zipIdx).flatMap fun q => allF d q.1 (pt ++ [q.2])
def isBad (m : Md) (it : List Nat × Nd) : Bool := match it.2 with
  | .lit n s => (m.lit n s).isNone
  | _ => false
theorem isBad_lit {m : Md} {pt : List Nat} {nd : Nd} : isBad m (pt, nd) = true ↔ ∃ n s, nd = .lit n s ∧ m.lit n s = none := by
  cases nd with
  | lit n s =>
    constructor
    · intro h
      exact ⟨n, s, rfl, Option.isNone_iff_eq_none.mp h⟩
    · intro h
      obtain ⟨a, b, h1, h2⟩ := h
      cases h1
      exact Option.isNone_iff_eq_none.mpr h2
  | _ => simp [isBad]
theorem find_flat {m : Md} {d : Nat} (pt : List Nat) : ∀ (es : List Nd) (k : Nat), (∀ e ∈ es, ∀ pt : List Nat, ((allF d e pt).find? (isBad m)).map Prod.fst = (e.bad m).map (pt ++ ·)) →
    (((es.zipIdx k).flatMap fun q => allF d q.1 (pt ++ [q.2])).find? (isBad m)).map Prod.fst = (badL m k es).map (pt ++ ·)
  | [], _, _ => rfl
  | e :: es, k, ih => by
    have h1 := ih e (List.mem_cons_self ..) (pt ++ [k])
    have h2 := find_flat pt es (k + 1) fun x hx => ih x (List.mem_cons_of_mem _ hx)
    rw [List.zipIdx_cons, List.flatMap_cons, List.find?_append]
    simp only [badL]
    cases hb : e.bad m with
    | none =>
      rw [hb] at h1
      have h3 : (allF d e (pt ++ [k])).find? (isBad m) = none := by
        cases hf : (allF d e (pt ++ [k])).find? (isBad m) with
        | none => rfl
        | some z => rw [hf] at h1; exact nomatch h1
      rw [h3]
      simpa using h2
    | some q =>
      rw [hb] at h1
      cases hf : (allF d e (pt ++ [k])).find? (isBad m) with
      | none => rw [hf] at h1; exact nomatch h1
      | some z =>
        rw [hf] at h1
        simp only [Option.map_some, Option.some_or] at h1 ⊢
        rw [Option.some.inj h1]
        simp
theorem find_all {m : Md} : ∀ (d : Nat) (nd : Nd) (pt : List Nat), nd.wf → nd.size ≤ d → ((allF d nd pt).find? (isBad m)).map Prod.fst = (nd.bad m).map (pt ++ ·)
  | 0, nd, pt, _, h => by have := size_sum nd; omega
  | d + 1, nd, pt, hw, h => by
    rw [allF, List.find?_cons]
    cases hb : isBad m (pt, nd) with
    | true =>
      obtain ⟨n, s, rfl, h2⟩ := isBad_lit.mp hb
      simp [Nd.bad, h2]
    | false =>
      have hn : ∀ n s, nd = .lit n s → m.lit n s ≠ none := fun n s z y => by
        have h3 : isBad m (pt, nd) = true := isBad_lit.mpr ⟨n, s, z, y⟩
        rw [hb] at h3
        exact nomatch h3
      rw [bad_parts hn]
      exact find_flat pt nd.parts 0 fun e he pt2 => find_all d e pt2 (parts_wf hw e he).1 (by have := (parts_wf hw e he).2; omega)
theorem all_wf : ∀ (d : Nat) (nd : Nd) (pt : List Nat), nd.wf → ∀ it ∈ allF d nd pt, it.2.wf
  | 0, _, _, _, it, h => nomatch h
  | d + 1, nd, pt, hw, it, h => by
    rw [allF] at h
    rcases List.mem_cons.mp h with rfl | h
    · exact hw
    · obtain ⟨q, hq, hi⟩ := List.mem_flatMap.mp h
      have hm := List.mem_zipIdx hq
      exact all_wf d q.1 _ (parts_wf hw q.1 (by rw [hm.2.2]; exact List.getElem_mem _)).1 it hi
theorem all_len : ∀ (d : Nat) (nd : Nd) (pt : List Nat), (allF d nd pt).length ≤ nd.size
  | 0, nd, _ => Nat.zero_le _
  | d + 1, nd, pt => by
    rw [allF, List.length_cons, List.length_flatMap]
    have : ∀ (es : List Nd) (k : Nat), ((es.zipIdx k).map fun q => (allF d q.1 (pt ++ [q.2])).length).sum ≤ sumSz es := fun es => by
      induction es with
      | nil => intro k; simp [sumSz]
      | cons e es ih =>
        intro k
        have h1 := all_len d e (pt ++ [k])
        have h2 := ih (k + 1)
        simp only [List.zipIdx_cons, List.map_cons, List.sum_cons, sumSz]
        omega
    have h1 := this nd.parts 0
    have h2 := size_sum nd
    omega
/-- a list of pairs (path, node) -/
def AllAt (K : PySem.W.Frag) (H : Hp) (l : Addr) (its : List (List Nat × Nd)) : Prop := ∃ ps : List Addr, H l = some (.lst (ps.map V.ref)) ∧ ps.length = its.length ∧ ∀ (j : Nat) (it : List Nat × Nd), its[j]? = some it → ∃ p t q, ps[j]? = some p ∧ H p = some (.tup [.ref t, .ref q]) ∧ SqT K H t (pathV it.1) ∧ TreeAt H q it.2
def spAll (K : PySem.W.Frag) (d : Nat) : Sp := fun vs H Q _ => ∃ p t nd pt, vs = [.ref p, .ref t] ∧ TreeAt H p nd ∧ nd.size ≤ d ∧ nd.size ≤ 60 ∧ SqT K H t (pathV pt) ∧ pt.length + nd.size ≤ 100 ∧ ∀ l H', H l = none → Ex H H' → AllAt K H' l (allF d nd pt) → Q (.ref l) H'
theorem flat_take {d : Nat} {pt : List Nat} : ∀ (es : List Nd) (k i : Nat) (e : Nd), es[i]? = some e → (((es.take (i + 1)).zipIdx k).flatMap fun q => allF d q.1 (pt ++ [q.2])) = (((es.take i).zipIdx k).flatMap fun q => allF d q.1 (pt ++ [q.2])) ++ allF d e (pt ++ [k + i])
  | x :: es, k, 0, e, h => by
    cases (Option.some.inj h)
    simp
  | x :: es, k, i + 1, e, h => by
    have ih := flat_take (d := d) (pt := pt) es (k + 1) i e h
    rw [show k + 1 + i = k + (i + 1) by omega] at ih
    simp only [List.take_succ_cons, List.zipIdx_cons, List.flatMap_cons, ih, List.append_assoc]
def spRef (K : PySem.W.Frag) : Sp := fun vs H Q _ => ∃ sch l p m rows nd, vs = [.ref sch, .ref l, .ref p] ∧ AtM K H sch m ∧ m.Ok ∧ VarsAt H l rows ∧ TreeAt H p nd ∧ nd.wf ∧ nd.size ≤ 30 ∧ ∀ v H', Ex H H' → Dp K H' v (admD m rows nd []) → Q v H'
def spAdmission (K : PySem.W.Frag) : Sp := fun vs H Q _ => ∃ sch l p m rows nd, vs = [.ref sch, .ref l, .ref p] ∧ AtM K H sch m ∧ m.Ok ∧ VarsAt H l rows ∧ rows.length ≤ 100 ∧ (∀ w ∈ rows, nameOk w.name = true) ∧ (rows.map Row.name).Nodup ∧ (∀ w ∈ rows, w.low ≤ w.high) ∧ TreeAt H p nd ∧ nd.wf ∧ nd.size ≤ 30 ∧ (∀ y ∈ nd.vars, y ∈ rows.map Row.name) ∧ nd.vars.Nodup ∧ ∀ v H', Ex H H' → Dp K H' v (admD m rows nd []) → Q v H'
theorem flat_len {d : Nat} {pt : List Nat} (es : List Nd) : ∀ k : Nat, ((es.zipIdx k).flatMap fun q => allF d q.1 (pt ++ [q.2])).length ≤ sumSz es := by
  induction es with
  | nil => intro k; simp [sumSz]
  | cons e es ih =>
    intro k
    have h1 := all_len d e (pt ++ [k])
    have h2 := ih (k + 1)
    simp only [List.zipIdx_cons, List.flatMap_cons, List.length_append, sumSz]
    omega
end Cf

namespace Cf
open PySem PySem.Spec PyProof.Rows L2 Evl
/-! ## what is shown of variables and expressions -/
def Row.dat (w : Row) : PyData := .tuple [.str w.name, .str w.kind.s, .int w.low, .int w.high]
theorem VarsAt.dp {K : PySem.W.Frag} {H : Hp} {l : Addr} {rows : List Row} (h : VarsAt H l rows) : Dp K H (.ref l) (.list (rows.map Row.dat)) := by
  obtain ⟨ps, a, b, c⟩ := h
  refine .lst (sq_of a) ?_
  clear a
  induction rows generalizing ps with
  | nil =>
    have : ps = [] := List.length_eq_zero_iff.mp b
    rw [this]
    exact .nil
  | cons w rows ih =>
    match ps, b, c with
    | p :: ps, b, c =>
      obtain ⟨p2, h1, h2⟩ := c 0 w rfl
      cases (Option.some.inj h1)
      exact .cons (.tup (st_of h2) (.cons (.str _) (.cons (.str _) (.cons (.int _) (.cons (.int _) .nil))))) (ih ps (Nat.succ.inj b) fun j x hx => c (j + 1) x hx)
def smStr (x : Str) : Bool := decide (x.cps.size ≤ 30) && x.cps.toList.all fun c => decide (c < 16 ^ 8)
theorem sm_str {x : Str} (h : smStr x = true) : Sm (.str x) := by
  unfold smStr at h
  rw [Bool.and_eq_true, decide_eq_true_iff] at h
  exact h
theorem kd_sm (k : Kd) : smStr k.s = true := by cases k <;> decide +kernel
theorem suf_sm {s : Str} (h : s ∈ sufs) : smStr s = true := by
  simp only [sufs, List.mem_cons, List.not_mem_nil, or_false] at h
  rcases h with rfl | rfl | rfl | rfl | rfl | rfl <;> decide +kernel
theorem rows_sm : ∀ {rows : List Row}, (∀ w ∈ rows, smStr w.name = true) → (∀ w ∈ rows, w.Fit) → SmAll (rows.map Row.dat)
  | [], _, _ => trivial
  | w :: rows, h, f => by
    obtain ⟨f1, f2, f3⟩ := f w (List.mem_cons_self ..)
    refine ⟨⟨sm_str (h w (List.mem_cons_self ..)), sm_str (kd_sm w.kind), ?_, ?_, trivial⟩, rows_sm (fun x hx => h x (List.mem_cons_of_mem _ hx)) fun x hx => f x (List.mem_cons_of_mem _ hx)⟩
    · show w.low.natAbs < 2 ^ 140
      omega
    · show w.high.natAbs < 2 ^ 140
      omega
theorem rows_sz : ∀ rows : List Row, szAll (rows.map Row.dat) = 5 * rows.length
  | [] => rfl
  | w :: rows => by
    have ih := rows_sz rows
    simp only [List.map_cons, szAll, Row.dat, szD, ih, List.length_cons]
    omega
theorem rows_dep : ∀ rows : List Row, PyData.depthAll (rows.map Row.dat) ≤ 1
  | [] => by simp [PyData.depthAll]
  | w :: rows => by
    have ih := rows_dep rows
    simp only [List.map_cons, PyData.depthAll, Row.dat, PyData.depth]
    omega
theorem word_sm : ∀ nd : Nd, Sm (.str nd.word)
  | .var _ => sm_str (by show smStr "var" = true; decide +kernel)
  | .lit _ _ => sm_str (by show smStr "lit" = true; decide +kernel)
  | .cast _ _ => sm_str (by show smStr "cast" = true; decide +kernel)
  | .neg _ => sm_str (by show smStr "neg" = true; decide +kernel)
  | .ite _ _ _ => sm_str (by show smStr "if" = true; decide +kernel)
  | .nt _ => sm_str (by show smStr "not" = true; decide +kernel)
  | .bin .add _ _ => sm_str (by show smStr "add" = true; decide +kernel)
  | .bin .sub _ _ => sm_str (by show smStr "sub" = true; decide +kernel)
  | .bin .mul _ _ => sm_str (by show smStr "mul" = true; decide +kernel)
  | .sh true _ _ => sm_str (by show smStr "shl" = true; decide +kernel)
  | .sh false _ _ => sm_str (by show smStr "shr" = true; decide +kernel)
  | .cmp true _ _ => sm_str (by show smStr "less" = true; decide +kernel)
  | .cmp false _ _ => sm_str (by show smStr "most" = true; decide +kernel)
  | .lg true _ _ => sm_str (by show smStr "and" = true; decide +kernel)
  | .lg false _ _ => sm_str (by show smStr "or" = true; decide +kernel)
theorem nd_sm : ∀ {nd : Nd}, nd.wf → (∀ x ∈ nd.vars, smStr x = true) → Sm nd.dat
  | .var x, _, h => ⟨word_sm (.var x), sm_str (h x (List.mem_cons_self ..)), trivial⟩
  | .lit n s, w, _ => ⟨word_sm (.lit n s), by obtain ⟨w1, w2, _⟩ := w; show n.natAbs < 2 ^ 140; omega, sm_str (suf_sm w.2.2), trivial⟩
  | .cast k e, w, h => ⟨word_sm (.cast k e), sm_str (kd_sm k), nd_sm w.2 h, trivial⟩
  | .neg e, w, h => ⟨word_sm (.neg e), nd_sm w.2 h, trivial⟩
  | .nt e, w, h => ⟨word_sm (.nt e), nd_sm w.2 h, trivial⟩
  | .sh b e k, w, h => ⟨word_sm (.sh b e k), nd_sm w.2.1 h, by obtain ⟨_, _, w1, w2⟩ := w; show k.natAbs < 2 ^ 140; omega, trivial⟩
  | .bin o e f, w, h => ⟨word_sm (.bin o e f), nd_sm w.2.2.1 (fun x hx => h x (List.mem_append_left _ hx)), nd_sm w.2.2.2 (fun x hx => h x (List.mem_append_right _ hx)), trivial⟩
  | .cmp o e f, w, h => ⟨word_sm (.cmp o e f), nd_sm w.2.2.1 (fun x hx => h x (List.mem_append_left _ hx)), nd_sm w.2.2.2 (fun x hx => h x (List.mem_append_right _ hx)), trivial⟩
  | .lg o e f, w, h => ⟨word_sm (.lg o e f), nd_sm w.2.2.1 (fun x hx => h x (List.mem_append_left _ hx)), nd_sm w.2.2.2 (fun x hx => h x (List.mem_append_right _ hx)), trivial⟩
  | .ite c e f, w, h => ⟨word_sm (.ite c e f), nd_sm w.2.2.2.1 (fun x hx => h x (List.mem_append_left _ hx)), nd_sm w.2.2.2.2.1 (fun x hx => h x (List.mem_append_right _ (List.mem_append_left _ hx))), nd_sm w.2.2.2.2.2 (fun x hx => h x (List.mem_append_right _ (List.mem_append_right _ hx))), trivial⟩
theorem nd_sz : ∀ nd : Nd, szD nd.dat ≤ 4 * nd.size
  | .var _ => by simp [Nd.dat, szD, szAll, Nd.size] | .lit _ _ => by simp [Nd.dat, szD, szAll, Nd.size]
  | .cast _ e => by have := nd_sz e; simp only [Nd.dat, szD, szAll, Nd.size]; omega
  | .neg e => by have := nd_sz e; simp only [Nd.dat, szD, szAll, Nd.size]; omega
  | .nt e => by have := nd_sz e; simp only [Nd.dat, szD, szAll, Nd.size]; omega
  | .sh _ e _ => by have := nd_sz e; simp only [Nd.dat, szD, szAll, Nd.size]; omega
  | .bin _ e f => by have := nd_sz e; have := nd_sz f; simp only [Nd.dat, szD, szAll, Nd.size]; omega
  | .cmp _ e f => by have := nd_sz e; have := nd_sz f; simp only [Nd.dat, szD, szAll, Nd.size]; omega
  | .lg _ e f => by have := nd_sz e; have := nd_sz f; simp only [Nd.dat, szD, szAll, Nd.size]; omega
  | .ite c e f => by have := nd_sz c; have := nd_sz e; have := nd_sz f; simp only [Nd.dat, szD, szAll, Nd.size]; omega
/-- where the first literal without a type stands is no deeper than the tree, and its path is small -/
theorem bad_len {m : Md} : ∀ {nd : Nd} {q : List Nat}, nd.bad m = some q → q.length < nd.size ∧ ∀ i ∈ q, i ≤ 2
  | .var _, q, h => nomatch h
  | .lit n s, q, h => by
    unfold Nd.bad at h
    split at h
    · cases (Option.some.inj h)
      exact ⟨by simp [Nd.size], fun i hi => nomatch hi⟩
    · exact nomatch h
  | .cast _ e, q, h => one h (fun z => bad_len z)
  | .neg e, q, h => one h (fun z => bad_len z)
  | .nt e, q, h => one h (fun z => bad_len z)
  | .sh _ e _, q, h => one h (fun z => bad_len z)
  | .bin _ e f, q, h => two h (fun z => bad_len z) (fun z => bad_len z)
  | .cmp _ e f, q, h => two h (fun z => bad_len z) (fun z => bad_len z)
  | .lg _ e f, q, h => two h (fun z => bad_len z) (fun z => bad_len z)
  | .ite c e f, q, h => by
    have h : ((c.bad m).map (0 :: ·)).or (((e.bad m).map (1 :: ·)).or ((f.bad m).map (2 :: ·))) = some q := h
    cases hc : c.bad m with
    | some z =>
      rw [hc] at h
      have h : 0 :: z = q := Option.some.inj h
      obtain ⟨b1, b2⟩ := bad_len hc
      rw [← h]
      exact ⟨by simp only [List.length_cons, Nd.size]; omega, fun i hi => by rcases List.mem_cons.mp hi with rfl | hi; omega; exact b2 i hi⟩
    | none =>
      rw [hc] at h
      cases he : e.bad m with
      | some z =>
        rw [he] at h
        have h : 1 :: z = q := Option.some.inj h
        obtain ⟨b1, b2⟩ := bad_len he
        rw [← h]
        exact ⟨by simp only [List.length_cons, Nd.size]; omega, fun i hi => by rcases List.mem_cons.mp hi with rfl | hi; omega; exact b2 i hi⟩
      | none =>
        rw [he] at h
        cases hf : f.bad m with
        | some z =>
          rw [hf] at h
          have h : 2 :: z = q := Option.some.inj h
          obtain ⟨b1, b2⟩ := bad_len hf
          rw [← h]
          exact ⟨by simp only [List.length_cons, Nd.size]; omega, fun i hi => by rcases List.mem_cons.mp hi with rfl | hi; omega; exact b2 i hi⟩
        | none => rw [hf] at h; exact nomatch h
where
  one {e : Nd} {q : List Nat} (h : (e.bad m).map (0 :: ·) = some q) (ih : ∀ {z : List Nat}, e.bad m = some z → z.length < e.size ∧ ∀ i ∈ z, i ≤ 2) : q.length < 1 + e.size ∧ ∀ i ∈ q, i ≤ 2 := by
    cases he : e.bad m with
    | none => rw [he] at h; exact nomatch h
    | some z =>
      rw [he] at h
      have h : 0 :: z = q := Option.some.inj h
      obtain ⟨b1, b2⟩ := ih he
      rw [← h]
      exact ⟨by simp only [List.length_cons]; omega, fun i hi => by rcases List.mem_cons.mp hi with rfl | hi; omega; exact b2 i hi⟩
  two {e f : Nd} {q : List Nat} (h : ((e.bad m).map (0 :: ·)).or ((f.bad m).map (1 :: ·)) = some q) (ih : ∀ {z : List Nat}, e.bad m = some z → z.length < e.size ∧ ∀ i ∈ z, i ≤ 2) (jh : ∀ {z : List Nat}, f.bad m = some z → z.length < f.size ∧ ∀ i ∈ z, i ≤ 2) : q.length < 1 + e.size + f.size ∧ ∀ i ∈ q, i ≤ 2 := by
    cases he : e.bad m with
    | some z =>
      rw [he] at h
      have h : 0 :: z = q := Option.some.inj h
      obtain ⟨b1, b2⟩ := ih he
      rw [← h]
      exact ⟨by simp only [List.length_cons]; omega, fun i hi => by rcases List.mem_cons.mp hi with rfl | hi; omega; exact b2 i hi⟩
    | none =>
      rw [he] at h
      cases hf : f.bad m with
      | some z =>
        rw [hf] at h
        have h : 1 :: z = q := Option.some.inj h
        obtain ⟨b1, b2⟩ := jh hf
        rw [← h]
        exact ⟨by simp only [List.length_cons]; omega, fun i hi => by rcases List.mem_cons.mp hi with rfl | hi; omega; exact b2 i hi⟩
      | none => rw [hf] at h; exact nomatch h
theorem admV_in {m : Md} {rows : List Row} {x : Str} (h : admV m rows = some x) : ∃ w ∈ rows, w.name = x := by
  unfold admV at h
  cases hf : rows.find? fun w => !m.rowOk w with
  | none => rw [hf] at h; exact nomatch h
  | some w =>
    rw [hf] at h
    exact ⟨w, List.mem_of_find?_eq_some hf, Option.some.inj h⟩
theorem path_sm : ∀ {q : List Nat}, (∀ i ∈ q, i ≤ 2) → SmAll (q.map fun i => PyData.int (i : Nat))
  | [], _ => trivial
  | i :: q, h => ⟨by have := h i (List.mem_cons_self ..); show ((i : Nat) : Int).natAbs < 2 ^ 140; omega, path_sm fun j hj => h j (List.mem_cons_of_mem _ hj)⟩
theorem path_sz : ∀ q : List Nat, szAll (q.map fun i => PyData.int (i : Nat)) = q.length
  | [] => rfl
  | i :: q => by
    have ih := path_sz q
    simp only [List.map_cons, szAll, szD, ih, List.length_cons]
    omega
theorem path_dep : ∀ q : List Nat, PyData.depthAll (q.map fun i => PyData.int (i : Nat)) = 0
  | [] => rfl
  | i :: q => by
    have ih := path_dep q
    simp only [List.map_cons, PyData.depthAll, PyData.depth, ih]
    rfl
theorem adm_sm {m : Md} {rows : List Row} {nd : Nd} (h : ∀ w ∈ rows, smStr w.name = true) (hs : nd.size ≤ 30) : Sm (admD m rows nd []) ∧ szD (admD m rows nd []) ≤ 40 ∧ (admD m rows nd []).depth ≤ 3 := by
  unfold admD
  cases hv : admV m rows with
  | some x =>
    obtain ⟨w, hw, rfl⟩ := admV_in hv
    exact ⟨⟨sm_str (by decide +kernel), sm_str (h w hw), trivial⟩, by simp [szD, szAll], by simp [PyData.depth, PyData.depthAll]⟩
  | none =>
    cases hb : nd.bad m with
    | none => exact ⟨trivial, by simp [szD], by simp [PyData.depth]⟩
    | some q =>
      obtain ⟨h1, h2⟩ := bad_len hb
      have e1 := path_sz q
      have e2 := path_dep q
      refine ⟨⟨sm_str (by decide +kernel), path_sm h2, trivial⟩, ?_, ?_⟩
      · simp only [List.nil_append, pathD, szD, szAll, e1]
        omega
      · simp only [List.nil_append, pathD, PyData.depth, PyData.depthAll, e2]
        omega
/-! ## data of tuples alone -/
mutual
def TupD : PyData → Prop
  | .tuple xs => TupDs xs
  | .list _ => False
  | .dict _ => False
  | _ => True
def TupDs : List PyData → Prop
  | [] => True
  | x :: xs => TupD x ∧ TupDs xs
end
theorem sqt_upd {K : PySem.W.Frag} {H : Hp} {l a : Addr} {ys xs : List V} {o : HO} (hl : H l = some (.lst ys)) (h : SqT K H a xs) : SqT K (upd H l o) a xs := by
  rcases h with (h | ⟨u, h⟩) | h
  · exact .inl (.inl (by rw [upd_ne (ne_of h hl fun z => by cases z)]; exact h))
  · exact .inl (.inr ⟨u, by rw [upd_ne (ne_of h hl fun z => by cases z)]; exact h⟩)
  · exact .inr h
mutual
theorem dp_upd {K : PySem.W.Frag} {H : Hp} {l : Addr} {ys : List V} {o : HO} (hl : H l = some (.lst ys)) : ∀ (d : PyData) (v : V), TupD d → Dp K H v d → Dp K (upd H l o) v d
  | .none, _, _, h => by cases h; exact .non
  | .bool b, _, _, h => by cases h; exact .bl b
  | .int i, _, _, h => by cases h; exact .int i
  | .str x, _, _, h => by cases h; exact .str x
  | .list _, _, t, _ => t.elim
  | .tuple ds, _, t, h => by
    cases h with
    | tup a b => exact .tup (sqt_upd hl a) (dps_upd hl ds _ t b)
  | .dict _, _, t, _ => t.elim
theorem dps_upd {K : PySem.W.Frag} {H : Hp} {l : Addr} {ys : List V} {o : HO} (hl : H l = some (.lst ys)) : ∀ (ds : List PyData) (vs : List V), TupDs ds → DpAll K H vs ds → DpAll K (upd H l o) vs ds
  | [], _, _, h => by cases h; exact .nil
  | d :: ds, _, t, h => by
    cases h with
    | cons a b => exact .cons (dp_upd hl d _ t.1 a) (dps_upd hl ds _ t.2 b)
end
end Cf

namespace Cf
open PySem PySem.Spec PyProof.Rows L2 Evl
/-! ## the kinds of the nodes -/
def comb (m : Md) : Option Kd → Option Kd → Option Kd
  | some a, some b => some (m.com a b)
  | _, _ => none
def Nd.own (m : Md) (vk : Str → Option Kd) : Nd → Option Kd
  | .var x => vk x
  | .lit n s => m.lit n s
  | .cast k _ => some k
  | .neg e => (e.own m vk).map m.prom
  | .sh _ e _ => (e.own m vk).map m.prom
  | .bin _ e f => comb m (e.own m vk) (f.own m vk)
  | .ite _ e f => comb m (e.own m vk) (f.own m vk)
  | .cmp _ e f => comb m (e.own m vk) (f.own m vk)
  | .nt _ => none
  | .lg _ _ _ => none
def Nd.hasK : Nd → Bool
  | .nt _ => false | .lg _ _ _ => false | _ => true
theorem isE_hasK : ∀ {nd : Nd}, nd.isE = true → nd.hasK = true
  | .var _, _ => rfl | .lit _ _, _ => rfl | .cast _ _, _ => rfl | .neg _, _ => rfl | .bin _ _ _, _ => rfl | .sh _ _ _, _ => rfl | .ite _ _ _, _ => rfl | .cmp _ _ _, _ => rfl
theorem or_none {α : Type} {a b : Option α} (h : a.or b = none) : a = none ∧ b = none := by
  cases a with
  | some _ => exact nomatch h
  | none => exact ⟨rfl, h⟩
theorem map_none {α β : Type} {f : α → β} {a : Option α} (h : a.map f = none) : a = none := by
  cases a with
  | some _ => exact nomatch h
  | none => rfl
theorem badL_none {m : Md} : ∀ {es : List Nd} {k : Nat}, badL m k es = none → ∀ e ∈ es, e.bad m = none
  | e :: es, k, h, x, hx => by
    obtain ⟨h1, h2⟩ := or_none (show ((e.bad m).map (k :: ·)).or (badL m (k + 1) es) = none from h)
    rcases List.mem_cons.mp hx with rfl | hx
    · exact map_none h1
    · exact badL_none h2 x hx
theorem bad_part {m : Md} {nd e : Nd} (h : nd.bad m = none) (he : e ∈ nd.parts) : e.bad m = none := by
  have hl : ∀ n s, nd = .lit n s → m.lit n s ≠ none := fun n s z => by
    subst z
    exact nomatch he
  rw [bad_parts hl] at h
  exact badL_none h e he
theorem own_some {m : Md} {vk : Str → Option Kd} : ∀ {nd : Nd}, nd.wf → nd.bad m = none → (∀ x ∈ nd.vars, ∃ k, vk x = some k) → nd.hasK = true → ∃ k, nd.own m vk = some k
  | .var x, _, _, h, _ => h x (List.mem_cons_self ..)
  | .lit n s, _, h, _, _ => by
    cases hl : m.lit n s with
    | some k => exact ⟨k, hl⟩
    | none =>
      unfold Nd.bad at h
      rw [if_pos hl] at h
      exact nomatch h
  | .cast k _, _, _, _, _ => ⟨k, rfl⟩
  | .neg e, w, h, v, _ => by
    obtain ⟨k, hk⟩ := own_some (nd := e) w.2 (bad_part h (List.mem_cons_self ..)) v (isE_hasK w.1)
    exact ⟨m.prom k, by simp only [Nd.own, hk, Option.map_some]⟩
  | .sh _ e _, w, h, v, _ => by
    obtain ⟨k, hk⟩ := own_some (nd := e) w.2.1 (bad_part h (List.mem_cons_self ..)) v (isE_hasK w.1)
    exact ⟨m.prom k, by simp only [Nd.own, hk, Option.map_some]⟩
  | .bin _ e f, w, h, v, _ => by
    obtain ⟨k, hk⟩ := own_some (nd := e) w.2.2.1 (bad_part h (List.mem_cons_self ..)) (fun x hx => v x (List.mem_append_left _ hx)) (isE_hasK w.1)
    obtain ⟨l, hl⟩ := own_some (nd := f) w.2.2.2 (bad_part h (List.mem_cons_of_mem _ (List.mem_cons_self ..))) (fun x hx => v x (List.mem_append_right _ hx)) (isE_hasK w.2.1)
    exact ⟨m.com k l, by simp only [Nd.own, hk, hl, comb]⟩
  | .cmp _ e f, w, h, v, _ => by
    obtain ⟨k, hk⟩ := own_some (nd := e) w.2.2.1 (bad_part h (List.mem_cons_self ..)) (fun x hx => v x (List.mem_append_left _ hx)) (isE_hasK w.1)
    obtain ⟨l, hl⟩ := own_some (nd := f) w.2.2.2 (bad_part h (List.mem_cons_of_mem _ (List.mem_cons_self ..))) (fun x hx => v x (List.mem_append_right _ hx)) (isE_hasK w.2.1)
    exact ⟨m.com k l, by simp only [Nd.own, hk, hl, comb]⟩
  | .ite c e f, w, h, v, _ => by
    obtain ⟨k, hk⟩ := own_some (nd := e) w.2.2.2.2.1 (bad_part h (List.mem_cons_of_mem _ (List.mem_cons_self ..))) (fun x hx => v x (List.mem_append_right _ (List.mem_append_left _ hx))) (isE_hasK w.2.1)
    obtain ⟨l, hl⟩ := own_some (nd := f) w.2.2.2.2.2 (bad_part h (List.mem_cons_of_mem _ (List.mem_cons_of_mem _ (List.mem_cons_self ..)))) (fun x hx => v x (List.mem_append_right _ (List.mem_append_right _ hx))) (isE_hasK w.2.2.1)
    exact ⟨m.com k l, by simp only [Nd.own, hk, hl, comb]⟩
/-! ## the rows of an expression -/
abbrev RowI := List Nat × Nd × List Nat
def plF (es : List Nd) (n i : Nat) : Nat := n + sumSz (es.take (i + 1)) - 1
def rowsF : Nat → Nd → List Nat → Nat → List RowI
  | 0, _, _, _ => []
  | d + 1, nd, pt, n => (nd.parts.zipIdx.flatMap fun q => rowsF d q.1 (pt ++ [q.2]) (n + sumSz (nd.parts.take q.2))) ++ [(pt, nd, (List.range nd.parts.length).map (plF nd.parts n))]
theorem flatG_take {α : Type} {g : Nd × Nat → List α} : ∀ (es : List Nd) (k i : Nat) (e : Nd), es[i]? = some e → ((es.take (i + 1)).zipIdx k).flatMap g = ((es.take i).zipIdx k).flatMap g ++ g (e, k + i)
  | x :: es, k, 0, e, h => by
    cases (Option.some.inj h)
    simp
  | x :: es, k, i + 1, e, h => by
    have ih := flatG_take (g := g) es (k + 1) i e h
    rw [show k + 1 + i = k + (i + 1) by omega] at ih
    simp only [List.take_succ_cons, List.zipIdx_cons, List.flatMap_cons, ih, List.append_assoc]
theorem rows_len : ∀ (d : Nat) (nd : Nd) (pt : List Nat) (n : Nat), nd.size ≤ d → (rowsF d nd pt n).length = nd.size
  | 0, nd, _, _, h => by have := size_sum nd; omega
  | d + 1, nd, pt, n, h => by
    have key : ∀ i, i ≤ nd.parts.length → (((nd.parts.take i).zipIdx).flatMap fun q => rowsF d q.1 (pt ++ [q.2]) (n + sumSz (nd.parts.take q.2))).length = sumSz (nd.parts.take i) := by
      intro i
      induction i with
      | zero => intro _; simp [sumSz]
      | succ i ih =>
        intro hi
        have he : nd.parts[i]? = some nd.parts[i] := List.getElem?_eq_getElem (by omega)
        have hz : nd.parts[i].size ≤ d := by
          have h1 := size_sum nd
          have h2 := sum_take nd.parts i _ he
          have h3 := sum_le nd.parts (i + 1)
          omega
        rw [flatG_take _ 0 i _ he, List.length_append, ih (by omega), rows_len d _ _ _ hz, sum_take _ _ _ he]
    have h1 := key nd.parts.length (Nat.le_refl _)
    rw [List.take_length] at h1
    rw [rowsF, List.length_append, h1, size_sum nd]
    simp only [List.length_cons, List.length_nil]
    omega
/-- the flat rows of the first i parts -/
def rowsP (d : Nat) (nd : Nd) (pt : List Nat) (n i : Nat) : List RowI := ((nd.parts.take i).zipIdx).flatMap fun q => rowsF d q.1 (pt ++ [q.2]) (n + sumSz (nd.parts.take q.2))
theorem rowsP_step {d : Nat} {nd : Nd} {pt : List Nat} {n i : Nat} {e : Nd} (h : nd.parts[i]? = some e) : rowsP d nd pt n (i + 1) = rowsP d nd pt n i ++ rowsF d e (pt ++ [i]) (n + sumSz (nd.parts.take i)) := by
  unfold rowsP
  rw [flatG_take _ 0 i _ h, Nat.zero_add]
theorem rowsP_len {d : Nat} {nd : Nd} {pt : List Nat} {n : Nat} (hd : nd.size ≤ d + 1) : ∀ i, i ≤ nd.parts.length → (rowsP d nd pt n i).length = sumSz (nd.parts.take i)
  | 0, _ => by simp [rowsP, sumSz]
  | i + 1, hi => by
    have he : nd.parts[i]? = some nd.parts[i] := List.getElem?_eq_getElem (by omega)
    have hz : nd.parts[i].size ≤ d := by
      have h1 := size_sum nd
      have h2 := sum_take nd.parts i _ he
      have h3 := sum_le nd.parts (i + 1)
      omega
    rw [rowsP_step he, List.length_append, rowsP_len hd i (by omega), rows_len d _ _ _ hz, sum_take _ _ _ he]
theorem rowsF_end {d : Nat} {nd : Nd} {pt : List Nat} {n : Nat} : rowsF (d + 1) nd pt n = rowsP d nd pt n nd.parts.length ++ [(pt, nd, (List.range nd.parts.length).map (plF nd.parts n))] := by
  unfold rowsP
  rw [List.take_length]
  rfl
/-- each row's places are rows before it, its parts' -/
def RowsOk (L : List RowI) : Prop := ∀ (j : Nat) (pt : List Nat) (nd : Nd) (pl : List Nat), L[j]? = some (pt, nd, pl) → pl.length = nd.parts.length ∧ ∀ (i : Nat) (e : Nd), nd.parts[i]? = some e → ∃ x ptx plx, pl[i]? = some x ∧ x < j ∧ L[x]? = some (ptx, e, plx)
theorem RowsOk.add {L : List RowI} {pt : List Nat} {nd : Nd} {pl : List Nat} (h : RowsOk L) (hl : pl.length = nd.parts.length) (hp : ∀ (i : Nat) (e : Nd), nd.parts[i]? = some e → ∃ x ptx plx, pl[i]? = some x ∧ L[x]? = some (ptx, e, plx)) : RowsOk (L ++ [(pt, nd, pl)]) := by
  intro j pt2 nd2 pl2 hj
  by_cases hlt : j < L.length
  · rw [List.getElem?_append_left hlt] at hj
    obtain ⟨h1, h2⟩ := h j pt2 nd2 pl2 hj
    refine ⟨h1, fun i e he => ?_⟩
    obtain ⟨x, ptx, plx, a, b, c⟩ := h2 i e he
    exact ⟨x, ptx, plx, a, b, by rw [List.getElem?_append_left (by omega)]; exact c⟩
  · rw [List.getElem?_append_right (by omega)] at hj
    have hz : j - L.length = 0 := by
      have := (List.getElem?_eq_some_iff.mp hj).1
      simp at this
      omega
    rw [hz] at hj
    cases (Option.some.inj hj)
    refine ⟨hl, fun i e he => ?_⟩
    obtain ⟨x, ptx, plx, a, c⟩ := hp i e he
    have hx := (List.getElem?_eq_some_iff.mp c).1
    exact ⟨x, ptx, plx, a, by omega, by rw [List.getElem?_append_left hx]; exact c⟩
theorem rows_ok : ∀ (d : Nat) (nd : Nd) (pt : List Nat) (pre : List RowI), nd.size ≤ d → RowsOk pre → RowsOk (pre ++ rowsF d nd pt pre.length)
  | 0, nd, _, _, h, _ => by have := size_sum nd; omega
  | d + 1, nd, pt, pre, h, hp => by
    have hz : ∀ {i : Nat} {e : Nd}, nd.parts[i]? = some e → e.size ≤ d := fun {i e} he => by
      have h1 := size_sum nd
      have h2 := sum_take nd.parts i _ he
      have h3 := sum_le nd.parts (i + 1)
      omega
    have key : ∀ i, i ≤ nd.parts.length → RowsOk (pre ++ rowsP d nd pt pre.length i) := by
      intro i
      induction i with
      | zero => intro _; simpa [rowsP] using hp
      | succ i ih =>
        intro hi
        have he : nd.parts[i]? = some nd.parts[i] := List.getElem?_eq_getElem (by omega)
        have h1 := rows_ok d nd.parts[i] (pt ++ [i]) _ (hz he) (ih (by omega))
        rw [List.length_append, rowsP_len (by omega) i (by omega), List.append_assoc] at h1
        rw [rowsP_step he]
        exact h1
    have last : ∀ i e, nd.parts[i]? = some e → ∃ ptx plx, (pre ++ rowsP d nd pt pre.length nd.parts.length)[plF nd.parts pre.length i]? = some (ptx, e, plx) := by
      have lk : ∀ c, c ≤ nd.parts.length → ∀ i e, i < c → nd.parts[i]? = some e → ∃ ptx plx, (pre ++ rowsP d nd pt pre.length c)[plF nd.parts pre.length i]? = some (ptx, e, plx) := by
        intro c
        induction c with
        | zero => intro _ i e hi; omega
        | succ c ih =>
          intro hc i e hi he
          have hec : nd.parts[c]? = some nd.parts[c] := List.getElem?_eq_getElem (by omega)
          have hl := rowsP_len (d := d) (pt := pt) (n := pre.length) (by omega) c (by omega)
          rw [rowsP_step hec, ← List.append_assoc]
          by_cases hic : i < c
          · obtain ⟨ptx, plx, z⟩ := ih (by omega) i e hic he
            have := (List.getElem?_eq_some_iff.mp z).1
            exact ⟨ptx, plx, by rw [List.getElem?_append_left this]; exact z⟩
          · have : i = c := by omega
            subst this
            rw [hec] at he
            cases (Option.some.inj he)
            have hs := hz hec
            have h2 := sum_take nd.parts i _ hec
            have h4 := size_sum nd.parts[i]
            have hlen : (pre ++ rowsP d nd pt pre.length i).length = pre.length + sumSz (nd.parts.take i) := by rw [List.length_append, hl]
            match d, hs, hl, hlen with
            | 0, hs, _, _ => omega
            | d + 1, hs, hl, hlen =>
              rw [rowsF_end, ← List.append_assoc]
              have l2 := rowsP_len (d := d) (pt := pt ++ [i]) (n := pre.length + sumSz (nd.parts.take i)) (by omega) nd.parts[i].parts.length (Nat.le_refl _)
              rw [List.take_length] at l2
              have l3 : ((pre ++ rowsP (d + 1) nd pt pre.length i) ++ rowsP d nd.parts[i] (pt ++ [i]) (pre.length + sumSz (nd.parts.take i)) nd.parts[i].parts.length).length = plF nd.parts pre.length i := by
                rw [List.length_append, hlen, l2]
                unfold plF
                omega
              refine ⟨pt ++ [i], (List.range nd.parts[i].parts.length).map (plF nd.parts[i].parts (pre.length + sumSz (nd.parts.take i))), ?_⟩
              rw [← l3, List.getElem?_append_right (Nat.le_refl _), Nat.sub_self]
              rfl
      exact fun i e he => lk _ (Nat.le_refl _) i e (List.getElem?_eq_some_iff.mp he).1 he
    rw [rowsF_end, ← List.append_assoc]
    refine (key _ (Nat.le_refl _)).add (by simp) fun i e he => ?_
    obtain ⟨ptx, plx, z⟩ := last i e he
    have hi := (List.getElem?_eq_some_iff.mp he).1
    exact ⟨_, ptx, plx, by rw [List.getElem?_map, List.getElem?_range hi]; rfl, z⟩
theorem rows_all {P : Nd → Prop} (hP : ∀ nd e, P nd → e ∈ nd.parts → P e) : ∀ (d : Nat) (nd : Nd) (pt : List Nat) (n : Nat), P nd → ∀ it ∈ rowsF d nd pt n, P it.2.1
  | 0, _, _, _, _, it, h => nomatch h
  | d + 1, nd, pt, n, hn, it, h => by
    rw [rowsF] at h
    rcases List.mem_append.mp h with h | h
    · obtain ⟨q, hq, hi⟩ := List.mem_flatMap.mp h
      have hm := List.mem_zipIdx hq
      exact rows_all hP d q.1 _ _ (hP nd q.1 hn (by rw [hm.2.2]; exact List.getElem_mem _)) it hi
    · simp only [List.mem_cons, List.not_mem_nil, or_false] at h
      rw [h]
      exact hn
theorem sqt_bu {K : PySem.W.Frag} {u a : Addr} {H H1 : Hp} {ys xs : List V} (e : Bu u H H1) (hu : H u = some (.lst ys)) (h : SqT K H a xs) : SqT K H1 a xs := by
  rcases h with (h | ⟨o, h⟩) | h
  · exact .inl (.inl (e _ _ (ne_of h hu fun z => by cases z) h))
  · exact .inl (.inr ⟨o, e _ _ (ne_of h hu fun z => by cases z) h⟩)
  · exact .inr h
theorem TupK.ofBu {l : Addr} {ys : List V} {H H1 : Hp} (e : Bu l H H1) (hl : H l = some (.lst ys)) : TupK H H1 := fun b xs h => e b _ (fun z => by rw [z, hl] at h; exact nomatch h) h
def natsV (ns : List Nat) : List V := ns.map fun x => V.int (x : Nat)
/-- a list of triples (path, node, places); no places list is of X -/
def RowsAt (K : PySem.W.Frag) (H : Hp) (l : Addr) (its : List RowI) (X : Addr → Prop) : Prop := ∃ ps : List Addr, H l = some (.lst (ps.map V.ref)) ∧ ps.length = its.length ∧ ∀ (j : Nat) (it : RowI), its[j]? = some it → ∃ p t q r, ps[j]? = some p ∧ H p = some (.tup [.ref t, .ref q, .ref r]) ∧ SqT K H t (pathV it.1) ∧ TreeAt H q it.2.1 ∧ H r = some (.lst (natsV it.2.2)) ∧ ¬ X r ∧ r ≠ l
theorem some_ex {H H' : Hp} {x : Addr} (e : Ex H H') (h : H x ≠ none) : H' x ≠ none := by
  cases hq : H x with
  | none => exact absurd hq h
  | some o => rw [e _ _ hq]; exact fun z => nomatch z
theorem RowsAt.ex {K : PySem.W.Frag} {H H' : Hp} {l : Addr} {its : List RowI} {X : Addr → Prop} (h : RowsAt K H l its X) (e : Ex H H') : RowsAt K H' l its X := by
  obtain ⟨ps, a, b, c⟩ := h
  refine ⟨ps, e _ _ a, b, fun j it hj => ?_⟩
  obtain ⟨p, t, q, r, z1, z2, z3, z4, z5, z6⟩ := c j it hj
  exact ⟨p, t, q, r, z1, e _ _ z2, ex_t e z3, z4.ex e, e _ _ z5, z6⟩
/-- another list changes -/
theorem RowsAt.bu {K : PySem.W.Frag} {H H' : Hp} {l u : Addr} {its : List RowI} {X : Addr → Prop} {ys : List V} (h : RowsAt K H l its X) (hu : H u = some (.lst ys)) (nu : u ≠ l) (hX : X u) (e : Bu u H H') : RowsAt K H' l its X := by
  obtain ⟨ps, a, b, c⟩ := h
  refine ⟨ps, e _ _ (Ne.symm nu) a, b, fun j it hj => ?_⟩
  obtain ⟨p, t, q, r, z1, z2, z3, z4, z5, z6, z7⟩ := c j it hj
  exact ⟨p, t, q, r, z1, e _ _ (fun z => by rw [z, hu] at z2; exact nomatch z2) z2, sqt_bu e hu z3, z4.tk (TupK.ofBu e hu), e _ _ (fun z => z6 (by rw [z]; exact hX)) z5, z6, z7⟩
theorem RowsAt.sub {K : PySem.W.Frag} {H : Hp} {l : Addr} {its : List RowI} {X Y : Addr → Prop} (h : RowsAt K H l its X) (s : ∀ r, H r ≠ none → ¬ X r → ¬ Y r) : RowsAt K H l its Y := by
  obtain ⟨ps, a, b, c⟩ := h
  refine ⟨ps, a, b, fun j it hj => ?_⟩
  obtain ⟨p, t, q, r, z1, z2, z3, z4, z5, z6, z7⟩ := c j it hj
  exact ⟨p, t, q, r, z1, z2, z3, z4, z5, s r (by rw [z5]; exact fun z => nomatch z) z6, z7⟩
/-- a row more -/
theorem RowsAt.add {K : PySem.W.Frag} {H : Hp} {l p t q r : Addr} {its : List RowI} {X : Addr → Prop} {pt : List Nat} {nd : Nd} {pl : List Nat} {ys : List V} (h : RowsAt K H l its X) (hl : H l = some (.lst ys)) (hp : H p = some (.tup [.ref t, .ref q, .ref r])) (ht : SqT K H t (pathV pt)) (hT : TreeAt H q nd) (hr : H r = some (.lst (natsV pl))) (hX : ¬ X r) (nr : r ≠ l) :
    RowsAt K (upd H l (.lst (ys ++ [.ref p]))) l (its ++ [(pt, nd, pl)]) X := by
  obtain ⟨ps, a, b, c⟩ := h
  rw [a] at hl
  have e := HO.lst.inj (Option.some.inj hl)
  subst e
  have tU : TupK H (upd H l (.lst (ps.map V.ref ++ [.ref p]))) := TupK.upd a fun xs z => nomatch z
  refine ⟨ps ++ [p], by rw [upd_same, List.map_append]; rfl, by rw [List.length_append, List.length_append, b]; rfl, fun j it hj => ?_⟩
  by_cases hjl : j < its.length
  · rw [List.getElem?_append_left hjl] at hj
    obtain ⟨p2, t2, q2, r2, z1, z2, z3, z4, z5, z6, z7⟩ := c j it hj
    exact ⟨p2, t2, q2, r2, by rw [List.getElem?_append_left (by omega)]; exact z1, tU _ _ z2, sqt_upd a z3, z4.tk tU, by rw [upd_ne z7]; exact z5, z6, z7⟩
  · rw [List.getElem?_append_right (by omega)] at hj
    have hz : j - its.length = 0 := by
      have := (List.getElem?_eq_some_iff.mp hj).1
      simp at this
      omega
    rw [hz] at hj
    cases (Option.some.inj hj)
    exact ⟨p, t, q, r, by rw [List.getElem?_append_right (by omega), b, hz]; rfl, tU _ _ hp, sqt_upd a ht, hT.tk tU, by rw [upd_ne nr]; exact hr, hX, nr⟩
def spAddRows (K : PySem.W.Frag) (d : Nat) : Sp := fun vs H Q _ => ∃ l t p nd pt its X, vs = [.ref l, .ref t, .ref p] ∧ TreeAt H p nd ∧ nd.size ≤ d ∧ nd.size ≤ 60 ∧ SqT K H t (pathV pt) ∧ pt.length + nd.size ≤ 100 ∧ its.length + nd.size ≤ 1000 ∧ RowsAt K H l its X ∧ (∀ x, X x → H x ≠ none) ∧
  ∀ H', Bu l H H' → RowsAt K H' l (its ++ rowsF d nd pt its.length) X → Q (.int ((its.length + nd.size - 1 : Nat) : Int)) H'
def spRows (K : PySem.W.Frag) : Sp := fun vs H Q _ => ∃ p nd X, vs = [.ref p] ∧ TreeAt H p nd ∧ nd.size ≤ 30 ∧ (∀ x, X x → H x ≠ none) ∧ ∀ l H', H l = none → Ex H H' → RowsAt K H' l (rowsF 30 nd [] 0) X → Q (.ref l) H'
end Cf

namespace Cf
open PySem PySem.Spec PyProof.Rows L2 Evl
/-! ## kinds by name -/
def kindL (rows : List Row) : List (Key × V) := rows.map fun w => (.inr w.name, w.kind.v)
def vkOf (rows : List Row) (x : Str) : Option Kd := (rows.find? fun w => decide (w.name = x)).map Row.kind
theorem kind_val (x : Str) : ∀ rows : List Row, valV (kindL rows) (.inr x) = (vkOf rows x).map Kd.v
  | [] => rfl
  | w :: rows => by
    have ih := kind_val x rows
    unfold valV kindL vkOf at ih ⊢
    rw [List.map_cons, List.find?_cons, List.find?_cons]
    by_cases h : w.name = x
    · rw [decide_eq_true h, decide_eq_true (by rw [h])]
      rfl
    · rw [decide_eq_false h, decide_eq_false (fun z => h (Sum.inr.inj z))]
      exact ih
theorem vk_none {rows : List Row} {x : Str} (h : x ∉ rows.map Row.name) : vkOf rows x = none := by
  unfold vkOf
  rw [List.find?_eq_none.mpr fun w hw => by
    rw [decide_eq_true_iff]
    exact fun z => h (List.mem_map.mpr ⟨w, hw, z⟩)]
  rfl
theorem vk_some {rows : List Row} {x : Str} (h : x ∈ rows.map Row.name) : ∃ k, vkOf rows x = some k := by
  unfold vkOf
  cases hf : rows.find? fun w => decide (w.name = x) with
  | some w => exact ⟨w.kind, rfl⟩
  | none =>
    obtain ⟨w, hw, e⟩ := List.mem_map.mp h
    exact absurd (decide_eq_true e) (by simpa using List.find?_eq_none.mp hf w hw)
theorem kind_put {rows : List Row} {w : Row} (h : w.name ∉ rows.map Row.name) : putK (kindL rows) (.inr w.name) w.kind.v = kindL (rows ++ [w]) := by
  unfold putK
  rw [valV_any, kind_val, vk_none h]
  unfold kindL
  rw [List.map_append]
  rfl
def spKBN : Sp := fun vs H Q _ => ∃ l rows, vs = [.ref l] ∧ VarsAt H l rows ∧ rows.length ≤ 100 ∧ (rows.map Row.name).Nodup ∧ ∀ d H', H d = none → Ex H H' → H' d = some (.dK (kindL rows)) → Q (.ref d) H'
theorem ev_dgetV {σ : L2.St} {H : Hp} {ta tk : TE} {bg : Addr} {kvs : List (Key × V)} {k : Str} {v : V} (ha : Ev ta σ H (.ref bg)) (hk : Ev tk σ H (.str k)) (h : H bg = some (.dK kvs)) (hv : valV kvs (.inr k) = some v) : Ev (tDGet ta tk) σ H v := fun H1 e Q q =>
  ha H1 e _ fun H2 e2 => hk H2 (e.trans e2) _ fun H3 e3 => ⟨bg, v, rfl, by
    have g := DGet.k (k := .inr k) (e3 _ _ (e2 _ _ (e _ _ h)))
    rw [hv] at g
    exact g, q H3 (e2.trans e3)⟩
/-! ## a node's kind -/
def KdOk (m : Md) (rows : List Row) (nd : Nd) : Prop := nd.wf ∧ nd.bad m = none ∧ ∀ x ∈ nd.vars, ∃ k, vkOf rows x = some k
theorem KdOk.part {m : Md} {rows : List Row} {nd e : Nd} (h : KdOk m rows nd) (he : e ∈ nd.parts) : KdOk m rows e :=
  ⟨(parts_wf h.1 e he).1, bad_part h.2.1 he, fun x hx => h.2.2 x (parts_vars he x hx)⟩
theorem KdOk.some {m : Md} {rows : List Row} {nd : Nd} (h : KdOk m rows nd) (hk : nd.hasK = true) : ∃ k, nd.own m (vkOf rows) = .some k := own_some h.1 h.2.1 h.2.2 hk
def ownV (m : Md) (rows : List Row) (nd : Nd) : V := optV (nd.own m (vkOf rows))
def preOwn (K : PySem.W.Frag) : List V → Hp → V → Prop := fun vs H v => ∃ sch nm q ol m rows nd, vs = [.ref sch, .ref nm, .ref q, .ref ol] ∧ AtM K H sch m ∧ m.Ok ∧ H nm = some (.dK (kindL rows)) ∧ TreeAt H q nd ∧ KdOk m rows nd ∧ H ol = some (.lst (nd.parts.map (ownV m rows))) ∧ v = ownV m rows nd
theorem spOwn {K : PySem.W.Frag} {H : Hp} {sch nm q ol : Addr} {m : Md} {rows : List Row} {nd : Nd} (hm : AtM K H sch m) (ho : m.Ok) (hn : H nm = some (.dK (kindL rows))) (hT : TreeAt H q nd) (hk : KdOk m rows nd) (hl : H ol = some (.lst (nd.parts.map (ownV m rows)))) : SpV (PV (preOwn K)) [.ref sch, .ref nm, .ref q, .ref ol] H (ownV m rows nd) :=
  PV.sp fun H1 e => ⟨sch, nm, q, ol, m, rows, nd, rfl, hm.ex e, ho, e _ _ hn, hT.ex e, hk, e _ _ hl, rfl⟩
theorem own_prom : ∀ {nd : Nd}, nd.wf → inV (.str nd.word) [.str "neg", .str "shl", .str "shr"] = true → ∃ e, nd.parts = [e] ∧ e.isE = true ∧ ∀ (m : Md) (vk : Str → Option Kd), nd.own m vk = (e.own m vk).map m.prom
  | .neg e, w, _ => ⟨e, rfl, w.1, fun _ _ => rfl⟩
  | .sh _ e _, w, _ => ⟨e, rfl, w.1, fun _ _ => rfl⟩
  | .var _, _, h => absurd h (by show ¬ (inV (.str "var") _ = true); decide)
  | .lit _ _, _, h => absurd h (by show ¬ (inV (.str "lit") _ = true); decide)
  | .cast _ _, _, h => absurd h (by show ¬ (inV (.str "cast") _ = true); decide)
  | .ite _ _ _, _, h => absurd h (by show ¬ (inV (.str "if") _ = true); decide)
  | .nt _, _, h => absurd h (by show ¬ (inV (.str "not") _ = true); decide)
  | .bin .add _ _, _, h => absurd h (by show ¬ (inV (.str "add") _ = true); decide)
  | .bin .sub _ _, _, h => absurd h (by show ¬ (inV (.str "sub") _ = true); decide)
  | .bin .mul _ _, _, h => absurd h (by show ¬ (inV (.str "mul") _ = true); decide)
  | .cmp true _ _, _, h => absurd h (by show ¬ (inV (.str "less") _ = true); decide)
  | .cmp false _ _, _, h => absurd h (by show ¬ (inV (.str "most") _ = true); decide)
  | .lg true _ _, _, h => absurd h (by show ¬ (inV (.str "and") _ = true); decide)
  | .lg false _ _, _, h => absurd h (by show ¬ (inV (.str "or") _ = true); decide)
theorem own_no : ∀ {nd : Nd}, inV (.str nd.word) [.str "not", .str "and", .str "or"] = true → ∀ (m : Md) (vk : Str → Option Kd), nd.own m vk = none
  | .nt _, _ => fun _ _ => rfl
  | .lg _ _ _, _ => fun _ _ => rfl
  | .neg _, h => absurd h (by show ¬ (inV (.str "neg") _ = true); decide)
  | .sh true _ _, h => absurd h (by show ¬ (inV (.str "shl") _ = true); decide)
  | .sh false _ _, h => absurd h (by show ¬ (inV (.str "shr") _ = true); decide)
  | .var _, h => absurd h (by show ¬ (inV (.str "var") _ = true); decide)
  | .lit _ _, h => absurd h (by show ¬ (inV (.str "lit") _ = true); decide)
  | .cast _ _, h => absurd h (by show ¬ (inV (.str "cast") _ = true); decide)
  | .ite _ _ _, h => absurd h (by show ¬ (inV (.str "if") _ = true); decide)
  | .bin .add _ _, h => absurd h (by show ¬ (inV (.str "add") _ = true); decide)
  | .bin .sub _ _, h => absurd h (by show ¬ (inV (.str "sub") _ = true); decide)
  | .bin .mul _ _, h => absurd h (by show ¬ (inV (.str "mul") _ = true); decide)
  | .cmp true _ _, h => absurd h (by show ¬ (inV (.str "less") _ = true); decide)
  | .cmp false _ _, h => absurd h (by show ¬ (inV (.str "most") _ = true); decide)
theorem own_comb : ∀ {nd : Nd}, nd.wf → nd.word ≠ "var" → nd.word ≠ "lit" → nd.word ≠ "cast" → inV (.str nd.word) [.str "neg", .str "shl", .str "shr"] = false → inV (.str nd.word) [.str "not", .str "and", .str "or"] = false →
    ∃ e f, (nd.parts = [e, f] ∨ ∃ c, nd.parts = [c, e, f]) ∧ e.isE = true ∧ f.isE = true ∧ ∀ (m : Md) (vk : Str → Option Kd), nd.own m vk = comb m (e.own m vk) (f.own m vk)
  | .bin _ e f, w, _, _, _, _, _ => ⟨e, f, .inl rfl, w.1, w.2.1, fun _ _ => rfl⟩
  | .cmp _ e f, w, _, _, _, _, _ => ⟨e, f, .inl rfl, w.1, w.2.1, fun _ _ => rfl⟩
  | .ite c e f, w, _, _, _, _, _ => ⟨e, f, .inr ⟨c, rfl⟩, w.2.1, w.2.2.1, fun _ _ => rfl⟩
  | .var _, _, h, _, _, _, _ => absurd rfl h
  | .lit _ _, _, _, h, _, _, _ => absurd rfl h
  | .cast _ _, _, _, _, h, _, _ => absurd rfl h
  | .neg _, _, _, _, _, h, _ => absurd h (by show ¬ (inV (.str "neg") _ = false); decide)
  | .sh true _ _, _, _, _, _, h, _ => absurd h (by show ¬ (inV (.str "shl") _ = false); decide)
  | .sh false _ _, _, _, _, _, h, _ => absurd h (by show ¬ (inV (.str "shr") _ = false); decide)
  | .nt _, _, _, _, _, _, h => absurd h (by show ¬ (inV (.str "not") _ = false); decide)
  | .lg true _ _, _, _, _, _, _, h => absurd h (by show ¬ (inV (.str "and") _ = false); decide)
  | .lg false _ _, _, _, _, _, _, h => absurd h (by show ¬ (inV (.str "or") _ = false); decide)
theorem word_cast : ∀ {nd : Nd}, nd.word = "cast" → ∃ k e, nd = .cast k e
  | .cast k e, _ => ⟨k, e, rfl⟩
  | .var _, h => absurd h (by show ("var" : Str) ≠ "cast"; decide)
  | .lit _ _, h => absurd h (by show ("lit" : Str) ≠ "cast"; decide)
  | .bin .add _ _, h => absurd h (by show ("add" : Str) ≠ "cast"; decide)
  | .bin .sub _ _, h => absurd h (by show ("sub" : Str) ≠ "cast"; decide)
  | .bin .mul _ _, h => absurd h (by show ("mul" : Str) ≠ "cast"; decide)
  | .sh true _ _, h => absurd h (by show ("shl" : Str) ≠ "cast"; decide)
  | .sh false _ _, h => absurd h (by show ("shr" : Str) ≠ "cast"; decide)
  | .cmp true _ _, h => absurd h (by show ("less" : Str) ≠ "cast"; decide)
  | .cmp false _ _, h => absurd h (by show ("most" : Str) ≠ "cast"; decide)
  | .lg true _ _, h => absurd h (by show ("and" : Str) ≠ "cast"; decide)
  | .lg false _ _, h => absurd h (by show ("or" : Str) ≠ "cast"; decide)
  | .neg _, h => absurd h (by show ("neg" : Str) ≠ "cast"; decide)
  | .ite _ _ _, h => absurd h (by show ("if" : Str) ≠ "cast"; decide)
  | .nt _, h => absurd h (by show ("not" : Str) ≠ "cast"; decide)
/-- [e for x in xs], e a value that changes nothing -/
theorem el_lcLA {K : PySem.W.Frag} {te : TE} {tl : TE} {σ : L2.St} {H : Hp} {j : Nat} {vs : List Nat} {a : Addr} {xs : List V} (v : Nat → V) (h : Ev tl σ H (.ref a)) (hx : SqL K H a xs) (hz : xs.length ≤ 40000) (hw : ∀ x, wipe ((wipe σ vs).set j (some x)) vs = wipe σ vs)
    (he : ∀ (i : Nat) (x : V) H1, Ex H H1 → xs[i]? = some x → Ev te ((wipe σ vs).set j (some x)) H1 (v i)) : EvL (tLc (iList K tl) (gName j) tYes te vs) σ H (given xs.length (fun _ => true) v) := fun H0 e Q q => h H0 e _ fun H1 e1 => ⟨a, rfl, ⟨_, ex_l (e.trans e1) hx⟩, fun Dl hD =>
  lc_it walk_list (Cw H1 (fun _ => true) v Dl) ⟨hD, Ex.new hD, upd_same⟩ (fun i G _ p => ex_l ((e.trans e1).trans p.2.1) hx) (fun i x G G' hi p y => by
    obtain ⟨rfl, hc⟩ := y
    exact ⟨hw _, cw_turn p (by omega) (fun H3 e3 Q q => q H3 (Ex.refl H3)) (fun hf => he i x H1 (e.trans e1) hc)⟩) (fun G p => q Dl G (fresh_back e1 p.1) (e1.trans p.2.1) p.2.2)⟩
def spKinds (K : PySem.W.Frag) : Sp := fun vs H Q _ => ∃ sch nm l m rows its X, vs = [.ref sch, .ref nm, .ref l] ∧ AtM K H sch m ∧ m.Ok ∧ H nm = some (.dK (kindL rows)) ∧ RowsAt K H l its X ∧ RowsOk its ∧ (∀ it ∈ its, KdOk m rows it.2.1) ∧ its.length ≤ 1000 ∧
  ∀ kl H', H kl = none → Ex H H' → H' kl = some (.lst (its.map fun it => ownV m rows it.2.1)) → Q (.ref kl) H'
end Cf

namespace Cf
open PySem PySem.Spec PyProof.Rows L2 Evl
theorem adm_cases (m : Md) (rows : List Row) (nd : Nd) (pt : List Nat) : (admD m rows nd pt = .none ∧ admV m rows = none ∧ nd.bad m = none) ∨ ∃ ds, admD m rows nd pt = .tuple ds := by
  unfold admD
  cases admV m rows with
  | some x => exact .inr ⟨_, rfl⟩
  | none =>
    cases nd.bad m with
    | some q => exact .inr ⟨_, rfl⟩
    | none => exact .inl ⟨rfl, rfl, rfl⟩
theorem dp_non {K : PySem.W.Frag} {H : Hp} {v : V} (h : Dp K H v .none) : v = .non := by cases h; rfl
theorem dp_tuple {K : PySem.W.Frag} {H : Hp} {v : V} {ds : List PyData} (h : Dp K H v (.tuple ds)) : ∃ a, v = .ref a := by cases h; exact ⟨_, rfl⟩
/-- what it raises stands and is shown so -/
def OutD (K : PySem.W.Frag) (C : Addr) (d : PyData) (H : Hp) (E : XK) : Prop := ∀ v H', Ex H H' → Dp K H' v d → Out C v H' E
def spCA (K : PySem.W.Frag) (C : Addr) : Sp := fun vs H Q E => ∃ sch l p m rows nd, vs = [.ref sch, .ref l, .ref p] ∧ AtM K H sch m ∧ m.Ok ∧ VarsAt H l rows ∧ TreeAt H p nd ∧ nd.wf ∧ nd.size ≤ 30 ∧ (admD m rows nd [] = .none → ∀ H', Ex H H' → Q .non H') ∧ (admD m rows nd [] ≠ .none → OutD K C (admD m rows nd []) H E)
/-- the type of an expression, None for a condition -/
def tyV (m : Md) (rows : List Row) (nd : Nd) : V := if nd.isE = true then ownV m rows nd else .non
/-- expression and variables are right -/
structure Right (K : PySem.W.Frag) (H : Hp) (sch l p : Addr) (m : Md) (rows : List Row) (nd : Nd) : Prop where
  hm : AtM K H sch m
  ho : m.Ok
  hV : VarsAt H l rows
  hz : rows.length ≤ 100
  hnm : ∀ w ∈ rows, nameOk w.name = true
  hnd : (rows.map Row.name).Nodup
  hle : ∀ w ∈ rows, w.low ≤ w.high
  hT : TreeAt H p nd
  hw : nd.wf
  hs : nd.size ≤ 30
  hv : ∀ y ∈ nd.vars, y ∈ rows.map Row.name
  hvn : nd.vars.Nodup
theorem Right.ex {K : PySem.W.Frag} {H H' : Hp} {sch l p : Addr} {m : Md} {rows : List Row} {nd : Nd} (h : Right K H sch l p m rows nd) (e : Ex H H') : Right K H' sch l p m rows nd :=
  ⟨h.hm.ex e, h.ho, h.hV.ex e, h.hz, h.hnm, h.hnd, h.hle, h.hT.ex e, h.hw, h.hs, h.hv, h.hvn⟩
def spType (K : PySem.W.Frag) (C : Addr) : Sp := fun vs H Q E => ∃ sch l p m rows nd, vs = [.ref sch, .ref l, .ref p] ∧ Right K H sch l p m rows nd ∧ (admD m rows nd [] = .none → ∀ H', Ex H H' → Q (tyV m rows nd) H') ∧ (admD m rows nd [] ≠ .none → OutD K C (admD m rows nd []) H E)
def optD : Option Kd → PyData
  | none => .none
  | some k => .str k.s
theorem opt_dp {K : PySem.W.Frag} {H : Hp} : ∀ o : Option Kd, Dp K H (optV o) (optD o)
  | none => .non
  | some k => .str k.s
def tyD (m : Md) (rows : List Row) (nd : Nd) : PyData := if nd.isE = true then optD (nd.own m (vkOf rows)) else .none
theorem ty_dp {K : PySem.W.Frag} {H : Hp} {m : Md} {rows : List Row} {nd : Nd} : Dp K H (tyV m rows nd) (tyD m rows nd) := by
  unfold tyV tyD ownV
  split
  · exact opt_dp _
  · exact .non
/-- what the law is told: the error's value, or the type in a list -/
def toldD (m : Md) (rows : List Row) (nd : Nd) : PyData := match admD m rows nd [] with
  | .none => .list [tyD m rows nd]
  | d => d
def spToldT (K : PySem.W.Frag) : Sp := fun vs H Q _ => ∃ sch l p m rows nd, vs = [.ref sch, .ref l, .ref p] ∧ Right K H sch l p m rows nd ∧ ∀ v H', Ex H H' → Dp K H' v (toldD m rows nd) → Q v H'
theorem told_none {m : Md} {rows : List Row} {nd : Nd} (h : admD m rows nd [] = .none) : toldD m rows nd = .list [tyD m rows nd] := by
  unfold toldD
  rw [h]
theorem told_some {m : Md} {rows : List Row} {nd : Nd} (h : admD m rows nd [] ≠ .none) : toldD m rows nd = admD m rows nd [] := by
  rcases adm_cases m rows nd [] with ⟨h2, _⟩ | ⟨ds, h2⟩
  · exact absurd h2 h
  · unfold toldD
    rw [h2]
end Cf
namespace Cf
open PySem PySem.Spec PyProof.Rows L2 Evl
theorem el_lcU {K : PySem.W.Frag} {te : TE} {tl : TE} {σ : L2.St} {H : Hp} {j : Nat} {vs : List Nat} {xs : List V} (v : Nat → V) (h : EvU tl σ H xs) (hz : xs.length ≤ 40000) (hw : ∀ x, wipe ((wipe σ vs).set j (some x)) vs = wipe σ vs)
    (he : ∀ (i : Nat) (x : V) H1, Ex H H1 → xs[i]? = some x → Ev te ((wipe σ vs).set j (some x)) H1 (v i)) : EvL (tLc (iTup K tl) (gName j) tYes te vs) σ H (given xs.length (fun _ => true) v) := fun H0 e Q q => h H0 e _ fun a H1 n1 e1 h1 => ⟨a, rfl, ⟨xs, st_of h1⟩, fun Dl hD =>
  lc_it walk_tup (Cw H1 (fun _ => true) v Dl) ⟨hD, Ex.new hD, upd_same⟩ (fun i G _ p => ex_t p.2.1 (st_of h1)) (fun i x G G' hi p y => by
    obtain ⟨rfl, hc⟩ := y
    exact ⟨hw _, cw_turn p (by omega) (fun H3 e3 Q q => q H3 (Ex.refl H3)) (fun hf => he i x H1 (e.trans e1) hc)⟩) (fun G p => q Dl G (fresh_back e1 p.1) (e1.trans p.2.1) p.2.2)⟩
theorem prom_at {H : Hp} : ∀ {nd : Nd} {p : Addr}, TreeAt H p nd → nd.wf → inV (.str nd.word) [.str "neg", .str "shl", .str "shr"] = true → ∃ xs q e, H p = some (.tup xs) ∧ xs[1]? = some (.ref q) ∧ nd.parts = [e] ∧ TreeAt H q e ∧ e.isE = true ∧ nd.isE = true ∧ ∀ (m : Md) (vk : Str → Option Kd), nd.own m vk = (e.own m vk).map m.prom
  | .neg e, _, ⟨q, h, t⟩, w, _ => ⟨_, q, e, h, rfl, rfl, t, w.1, rfl, fun _ _ => rfl⟩
  | .sh _ e _, _, ⟨q, h, t⟩, w, _ => ⟨_, q, e, h, rfl, rfl, t, w.1, rfl, fun _ _ => rfl⟩
  | .var _, _, _, _, h => absurd h (by show ¬ (inV (.str "var") _ = true); decide)
  | .lit _ _, _, _, _, h => absurd h (by show ¬ (inV (.str "lit") _ = true); decide)
  | .cast _ _, _, _, _, h => absurd h (by show ¬ (inV (.str "cast") _ = true); decide)
  | .ite _ _ _, _, _, _, h => absurd h (by show ¬ (inV (.str "if") _ = true); decide)
  | .nt _, _, _, _, h => absurd h (by show ¬ (inV (.str "not") _ = true); decide)
  | .bin .add _ _, _, _, _, h => absurd h (by show ¬ (inV (.str "add") _ = true); decide)
  | .bin .sub _ _, _, _, _, h => absurd h (by show ¬ (inV (.str "sub") _ = true); decide)
  | .bin .mul _ _, _, _, _, h => absurd h (by show ¬ (inV (.str "mul") _ = true); decide)
  | .cmp true _ _, _, _, _, h => absurd h (by show ¬ (inV (.str "less") _ = true); decide)
  | .cmp false _ _, _, _, _, h => absurd h (by show ¬ (inV (.str "most") _ = true); decide)
  | .lg true _ _, _, _, _, h => absurd h (by show ¬ (inV (.str "and") _ = true); decide)
  | .lg false _ _, _, _, _, h => absurd h (by show ¬ (inV (.str "or") _ = true); decide)
theorem comb_at {H : Hp} : ∀ {nd : Nd} {p : Addr}, TreeAt H p nd → nd.wf → nd.word ≠ "var" → nd.word ≠ "lit" → nd.word ≠ "cast" → nd.isE = true → inV (.str nd.word) [.str "neg", .str "shl", .str "shr"] = false →
    ∃ xs q r e f, H p = some (.tup xs) ∧ cutV xs (some ((xs.length : Int) - 2)) none = [.ref q, .ref r] ∧ HT.sIx xs.length 0 (some ((xs.length : Int) - 2)) ≠ 0 ∧ TreeAt H q e ∧ TreeAt H r f ∧ e ∈ nd.parts ∧ f ∈ nd.parts ∧ e.isE = true ∧ f.isE = true ∧ ∀ (m : Md) (vk : Str → Option Kd), nd.own m vk = comb m (e.own m vk) (f.own m vk)
  | .bin _ e f, _, ⟨q, r, h, t, u⟩, w, _, _, _, _, _ => ⟨_, q, r, e, f, h, rfl, by show HT.sIx 3 0 (some (3 - 2)) ≠ 0; decide, t, u, List.mem_cons_self .., List.mem_cons_of_mem _ (List.mem_cons_self ..), w.1, w.2.1, fun _ _ => rfl⟩
  | .ite c e f, _, ⟨o, q, r, h, s, t, u⟩, w, _, _, _, _, _ => ⟨_, q, r, e, f, h, rfl, by show HT.sIx 4 0 (some (4 - 2)) ≠ 0; decide, t, u, List.mem_cons_of_mem _ (List.mem_cons_self ..), List.mem_cons_of_mem _ (List.mem_cons_of_mem _ (List.mem_cons_self ..)), w.2.1, w.2.2.1, fun _ _ => rfl⟩
  | .cmp _ _ _, _, _, _, _, _, _, h, _ => nomatch h
  | .nt _, _, _, _, _, _, _, h, _ => nomatch h
  | .lg _ _ _, _, _, _, _, _, _, h, _ => nomatch h
  | .var _, _, _, _, h, _, _, _, _ => absurd rfl h
  | .lit _ _, _, _, _, _, h, _, _, _ => absurd rfl h
  | .cast _ _, _, _, _, _, _, h, _, _ => absurd rfl h
  | .neg _, _, _, _, _, _, _, _, h => absurd h (by show ¬ (inV (.str "neg") _ = false); decide)
  | .sh true _ _, _, _, _, _, _, _, _, h => absurd h (by show ¬ (inV (.str "shl") _ = false); decide)
  | .sh false _ _, _, _, _, _, _, _, _, h => absurd h (by show ¬ (inV (.str "shr") _ = false); decide)
def preLab (K : PySem.W.Frag) (d : Nat) : List V → Hp → V → Prop := fun vs H v => ∃ sch nm q m rows nd, vs = [.ref sch, .ref nm, .ref q] ∧ AtM K H sch m ∧ m.Ok ∧ H nm = some (.dK (kindL rows)) ∧ TreeAt H q nd ∧ KdOk m rows nd ∧ nd.size ≤ d ∧ v = tyV m rows nd
theorem spLab {K : PySem.W.Frag} {H : Hp} {sch nm q : Addr} {m : Md} {rows : List Row} {nd : Nd} {d : Nat} (hm : AtM K H sch m) (ho : m.Ok) (hn : H nm = some (.dK (kindL rows))) (hT : TreeAt H q nd) (hk : KdOk m rows nd) (hd : nd.size ≤ d) : SpV (PV (preLab K d)) [.ref sch, .ref nm, .ref q] H (tyV m rows nd) :=
  PV.sp fun H1 e => ⟨sch, nm, q, m, rows, nd, rfl, hm.ex e, ho, e _ _ hn, hT.ex e, hk, hd, rfl⟩
theorem tyV_E {m : Md} {rows : List Row} {nd : Nd} {k : Kd} (h : nd.isE = true) (hk : nd.own m (vkOf rows) = some k) : tyV m rows nd = k.v := by
  unfold tyV ownV
  rw [if_pos h, hk]
  rfl
end Cf
namespace Cf
open PySem PySem.Spec PyProof.Rows L2 Evl
theorem varsL_nodup {es : List Nd} (h : (varsL es).Nodup) {e : Nd} (he : e ∈ es) : e.vars.Nodup := by
  obtain ⟨i, hi⟩ := List.getElem?_of_mem he
  rw [varsL_split hi] at h
  exact (List.nodup_append.mp (List.nodup_append.mp h).2.1).1
theorem part_nodup {nd e : Nd} (h : nd.vars.Nodup) (he : e ∈ nd.parts) : e.vars.Nodup := by
  have hv : ∀ x, nd ≠ .var x := fun x z => by subst z; exact nomatch he
  rw [vars_parts hv] at h
  exact varsL_nodup h he
theorem Right.part {K : PySem.W.Frag} {H : Hp} {sch l p q : Addr} {m : Md} {rows : List Row} {nd e : Nd} (h : Right K H sch l p m rows nd) (he : e ∈ nd.parts) (hT : TreeAt H q e) : Right K H sch l q m rows e :=
  ⟨h.hm, h.ho, h.hV, h.hz, h.hnm, h.hnd, h.hle, hT, (parts_wf h.hw e he).1, by have := (parts_wf h.hw e he).2; have := h.hs; omega, fun y hy => h.hv y (parts_vars he y hy), part_nodup h.hvn he⟩
theorem told_sm {m : Md} {rows : List Row} {nd : Nd} (h : ∀ w ∈ rows, smStr w.name = true) (hs : nd.size ≤ 30) : Sm (toldD m rows nd) ∧ szD (toldD m rows nd) ≤ 60 ∧ (toldD m rows nd).depth ≤ 4 := by
  rcases adm_cases m rows nd [] with ⟨ha, _⟩ | ⟨ds, ha⟩
  · rw [told_none ha]
    have : Sm (tyD m rows nd) ∧ szD (tyD m rows nd) ≤ 10 ∧ (tyD m rows nd).depth ≤ 1 := by
      unfold tyD
      split
      · cases nd.own m (vkOf rows) with
        | none => exact ⟨trivial, by simp [optD, szD], by simp [optD, PyData.depth]⟩
        | some k => exact ⟨sm_str (kd_sm k), by simp [optD, szD], by simp [optD, PyData.depth]⟩
      · exact ⟨trivial, by simp [szD], by simp [PyData.depth]⟩
    obtain ⟨h1, h2, h3⟩ := this
    refine ⟨⟨h1, trivial⟩, ?_, ?_⟩
    · simp only [szD, szAll]
      omega
    · simp only [PyData.depth, PyData.depthAll]
      omega
  · rw [told_some (by rw [ha]; exact fun z => nomatch z)]
    obtain ⟨h1, h2, h3⟩ := adm_sm (m := m) (nd := nd) h hs
    exact ⟨h1, by omega, by omega⟩
theorem told_ref {K : PySem.W.Frag} {H : Hp} {v : V} {m : Md} {rows : List Row} {nd : Nd} (h : Dp K H v (toldD m rows nd)) : ∃ a, v = .ref a := by
  rcases adm_cases m rows nd [] with ⟨ha, _⟩ | ⟨ds, ha⟩
  · rw [told_none ha] at h
    cases h
    exact ⟨_, rfl⟩
  · rw [told_some (by rw [ha]; exact fun z => nomatch z), ha] at h
    exact dp_tuple h
theorem ev_reprD {K : PySem.W.Frag} {σ : L2.St} {H : Hp} {ta : TE} {d : PyData} (ha : ∀ H1, Ex H H1 → ∀ Q : VK, (∀ a H2, Ex H1 H2 → Dp K H2 (.ref a) d → Q (.ref a) H2) → ta σ H1 Q) (hs : Sm d) (hz : szD d ≤ 800) (hp : d.depth ≤ 60) : Ev (tCB (rRepr K) (tCons ta tNil)) σ H (.str d.shown) := fun H1 e Q q =>
  ha H1 e _ fun a H2 e2 hd => ⟨a, d, rfl, hd, (sm_all d hs).1, (sm_all d hs).2.1, sm_len hs hz, hp, q H2 e2⟩
def preRight (K : PySem.W.Frag) (d : Nat) : List V → Hp → V → Prop := fun vs H v => ∃ sch l p m rows nd, vs = [.ref sch, .ref l, .ref p] ∧ Right K H sch l p m rows nd ∧ nd.size ≤ d ∧ (∀ w ∈ rows, smStr w.name = true) ∧ v = .bl true
theorem spRight {K : PySem.W.Frag} {H : Hp} {sch l p : Addr} {m : Md} {rows : List Row} {nd : Nd} {d : Nat} (R : Right K H sch l p m rows nd) (hd : nd.size ≤ d) (hsm : ∀ w ∈ rows, smStr w.name = true) : SpV (PV (preRight K d)) [.ref sch, .ref l, .ref p] H (.bl true) :=
  PV.sp fun H1 e => ⟨sch, l, p, m, rows, nd, rfl, R.ex e, hd, hsm, rfl⟩
theorem given_none (v : Nat → V) (n : Nat) : given n (fun _ => false) v = [] := by
  unfold given
  rw [List.filter_eq_nil_iff.mpr (fun _ _ => by decide)]
  rfl
end Cf
namespace Cf
open PySem PySem.Spec PyProof.Rows L2 Evl
mutual
theorem dp_buK {K : PySem.W.Frag} {u : Addr} {H H1 : Hp} {kvs : List (Key × V)} (hu : H u = some (.dK kvs)) (e : Bu u H H1) : ∀ (d : PyData) (v : V), TupD d → Dp K H v d → Dp K H1 v d
  | .none, _, _, h => by cases h; exact .non
  | .bool b, _, _, h => by cases h; exact .bl b
  | .int i, _, _, h => by cases h; exact .int i
  | .str x, _, _, h => by cases h; exact .str x
  | .list _, _, t, _ => t.elim
  | .tuple ds, _, t, h => by
    cases h with
    | tup a b => exact .tup (sqt_dk e hu a) (dps_buK hu e ds _ t b)
  | .dict _, _, t, _ => t.elim
theorem dps_buK {K : PySem.W.Frag} {u : Addr} {H H1 : Hp} {kvs : List (Key × V)} (hu : H u = some (.dK kvs)) (e : Bu u H H1) : ∀ (ds : List PyData) (vs : List V), TupDs ds → DpAll K H vs ds → DpAll K H1 vs ds
  | [], _, _, h => by cases h; exact .nil
  | d :: ds, _, t, h => by
    cases h with
    | cons a b => exact .cons (dp_buK hu e d _ t.1 a) (dps_buK hu e ds _ t.2 b)
end
end Cf
namespace Cf
open PySem PySem.Spec PyProof.Rows L2 Evl
theorem el_lcLf {K : PySem.W.Frag} {te : TE} {tl : TE} {tt : TT} {σ : L2.St} {H : Hp} {j : Nat} {vs : List Nat} {a : Addr} {xs : List V} (f : Nat → Bool) (v : Nat → V) (h : Ev tl σ H (.ref a)) (hx : SqL K H a xs) (hz : xs.length ≤ 40000) (hw : ∀ x, wipe ((wipe σ vs).set j (some x)) vs = wipe σ vs)
    (ht : ∀ (i : Nat) (x : V) H1, Ex H H1 → xs[i]? = some x → EvT tt ((wipe σ vs).set j (some x)) H1 (f i))
    (he : ∀ (i : Nat) (x : V) H1, Ex H H1 → xs[i]? = some x → f i = true → Ev te ((wipe σ vs).set j (some x)) H1 (v i)) : EvL (tLc (iList K tl) (gName j) tt te vs) σ H (given xs.length f v) := fun H0 e Q q => h H0 e _ fun H1 e1 => ⟨a, rfl, ⟨_, ex_l (e.trans e1) hx⟩, fun Dl hD =>
  lc_it walk_list (Cw H1 f v Dl) ⟨hD, Ex.new hD, upd_same⟩ (fun i G _ p => ex_l ((e.trans e1).trans p.2.1) hx) (fun i x G G' hi p y => by
    obtain ⟨rfl, hc⟩ := y
    exact ⟨hw _, cw_turn p (by omega) (ht i x H1 (e.trans e1) hc) (fun hf => he i x H1 (e.trans e1) hc hf)⟩) (fun G p => q Dl G (fresh_back e1 p.1) (e1.trans p.2.1) p.2.2)⟩
def row0 : Row := ⟨"", .ch, 0, 0⟩
theorem vars_pick {H : Hp} {ps : List Addr} {rows : List Row} {f : Nat → Bool} {l2 : Addr} (hlen : ps.length = rows.length) (c : ∀ (j : Nat) (w : Row), rows[j]? = some w → ∃ p, ps[j]? = some p ∧ H p = some (.tup w.vs)) (hl : H l2 = some (.lst (given rows.length f (fun i => V.ref (ps.getD i 0))))) :
    ∃ rows2, VarsAt H l2 rows2 ∧ List.Sublist (rows2.map Row.name) (rows.map Row.name) ∧ (∀ w ∈ rows2, w ∈ rows) ∧ rows2.length ≤ rows.length := by
  have hr : (List.range rows.length).map (fun i => rows.getD i row0) = rows := by
    apply List.ext_getElem?
    intro j
    rw [List.getElem?_map]
    by_cases hj : j < rows.length
    · rw [List.getElem?_range hj, Option.map_some, List.getD_eq_getElem?_getD, List.getElem?_eq_getElem hj]
      rfl
    · rw [List.getElem?_eq_none (by simpa using hj), List.getElem?_eq_none (by omega)]
      rfl
  have sub : List.Sublist (((List.range rows.length).filter f).map (fun i => rows.getD i row0)) rows := by
    have h := (List.filter_sublist (p := f) (l := List.range rows.length)).map (fun i => rows.getD i row0)
    rw [hr] at h
    exact h
  refine ⟨((List.range rows.length).filter f).map (fun i => rows.getD i row0), ⟨((List.range rows.length).filter f).map (fun i => ps.getD i 0), ?_, ?_, fun j w hj => ?_⟩, sub.map _, fun w hw => sub.subset hw, sub.length_le⟩
  · rw [hl]
    unfold given
    rw [List.map_map]
    rfl
  · rw [List.length_map, List.length_map]
  · rw [List.getElem?_map] at hj
    obtain ⟨i, hi, rfl⟩ := Option.map_eq_some_iff.mp hj
    have hm := List.mem_of_getElem? hi
    have hir : i < rows.length := List.mem_range.mp ((List.mem_filter.mp hm).1)
    have hri : rows[i]? = some rows[i] := List.getElem?_eq_getElem hir
    obtain ⟨p, p1, p2⟩ := c i rows[i] hri
    refine ⟨p, ?_, ?_⟩
    · rw [List.getElem?_map, hi, Option.map_some, List.getD_eq_getElem?_getD, p1]
      rfl
    · rw [List.getD_eq_getElem?_getD, hri]
      exact p2
end Cf

namespace Cf
open PySem PySem.Spec PyProof.Rows L2 Evl
/-! ## the draws out of a pool -/
theorem small_log5 {i : Int} {n : Nat} (hn : 0 < n) (h : i.natAbs < 2 ^ n) (h2 : n ≤ 90000) : CPowW i 5 := ⟨by decide, by decide, by
  have := PySem.Flt.log2_lt_of hn h
  omega⟩
def spPool (K : PySem.W.Frag) : Sp := fun vs H Q _ => ∃ (a : Addr) (ns : List Int) (at_ : Nat), vs = [.ref a, .int (at_ : Nat)] ∧ SqL K H a (ns.map V.int) ∧ ns.length ≤ 63 ∧ at_ ≤ 63 ∧ ∀ r H', H r = none → Ex H H' → Rng H' r 0 → Q (.ref r) H'
def spModel (K : PySem.W.Frag) : Sp := fun vs H Q _ => ∃ r top n, vs = [.ref r, .int top] ∧ 4 ≤ top ∧ top ≤ 128 ∧ n < 2 ^ 50 ∧ Rng H r n ∧
  ∀ p H' m, Bu r H H' → Rng H' r (n + 20) → AtM K H' p m → m.Ok → (m.w4 : Int) ≤ top → Q (.ref p) H'
theorem retx {te : TE} {D : Ends} {σ : L2.St} {H : Hp} (h : te σ H D.rt) : tRet te D σ H := h
theorem Rng.ne_none {H : Hp} {r p : Addr} {n : Nat} (h : Rng H r n) (t : H p = none) : p ≠ r := by
  obtain ⟨d, s, c, a, _⟩ := h
  exact fun z => by
    rw [z, a] at t
    cases t
/-- one of 's', 'u' -/
theorem su_draw {σ : L2.St} {H : Hp} {r : Addr} {n j : Nat} {E : XK} {Q : VK} (g : Rng H r n) (hn : n < 2 ^ 60) (hj : σ[j]? = some (some (.ref r))) (k : ∀ H' u, Bu r H H' → Rng H' r (n + 1) → Q (.str (plS u)) H') :
    tOp rIxS (tC (.str "su")) (tCall spDraw [] E (tCons (tVar j) (tCons (tC (.int 2)) tNil))) σ H Q := by
  refine op_raw (draw_at (l := 2) (n := n) (ea_cons (ev_var hj) (ea_cons ev_c ea_nil)) (by decide) (log_small (by decide)) hn g fun H5 v b5 g5 v0 v1 => ?_)
  obtain ⟨u, hu⟩ : ∃ u : Bool, atI ("su" : Str).cps.toList v = some (if u then 117 else 115) := by
    have hv : v = 0 ∨ v = 1 := by omega
    rcases hv with rfl | rfl
    · exact ⟨false, by decide +kernel⟩
    · exact ⟨true, by decide +kernel⟩
  have e : (⟨#[if u then 117 else 115]⟩ : Str) = plS u := by cases u <;> rfl
  have := k H5 u b5 g5
  rw [← e] at this
  exact ⟨_, v, _, rfl, rfl, by decide +kernel, hu, this⟩
/-- widths that stand in a list -/
def W5 (top : Int) (ns : List Int) : Prop := ns.length = 5 ∧ ∀ x ∈ ns, 2 ≤ x ∧ x ≤ top
theorem W5.perm {top : Int} {ns ms : List Int} (h : W5 top ns) (p : ms.Perm ns) : W5 top ms := ⟨p.length_eq.trans h.1, fun x hx => h.2 x (p.mem_iff.mp hx)⟩
theorem W5.set {top : Int} {ns : List Int} {i : Nat} {x : Int} (h : W5 top ns) (hx : x ∈ ns) : W5 top (ns.set i x) := ⟨by rw [List.length_set]; exact h.1, fun y hy => by
  rcases List.mem_or_eq_of_mem_set hy with z | z
  · exact h.2 y z
  · rw [z]
    exact h.2 x hx⟩
theorem W5.md {top : Int} {ns : List Int} (h : W5 top ns) (s : ns.Pairwise (· ≤ ·)) (ht : top ≤ 128) (u : Bool) : ∃ m : Md, m.Ok ∧ m.u = u ∧ ns.map V.int = m.ws ∧ (m.w4 : Int) ≤ top := by
  obtain ⟨hl, hm⟩ := h
  match ns, hl with
  | [a, b, c, d, e], _ =>
    have ha := hm a (by simp)
    have hb := hm b (by simp)
    have hc := hm c (by simp)
    have hd := hm d (by simp)
    have he := hm e (by simp)
    simp only [List.pairwise_cons, List.mem_cons, List.not_mem_nil, or_false, forall_eq_or_imp, forall_eq] at s
    obtain ⟨⟨s1, _⟩, ⟨s2, _⟩, ⟨s3, _⟩, s4, _⟩ := s
    refine ⟨⟨a.toNat, b.toNat, c.toNat, d.toNat, e.toNat, u⟩, ⟨?_, ?_, ?_, ?_, ?_, ?_⟩, rfl, ?_, ?_⟩
    all_goals (try (simp only []; omega))
    show [V.int a, V.int b, V.int c, V.int d, V.int e] = [V.int (a.toNat : Nat), V.int (b.toNat : Nat), V.int (c.toNat : Nat), V.int (d.toNat : Nat), V.int (e.toNat : Nat)]
    rw [Int.toNat_of_nonneg (by omega), Int.toNat_of_nonneg (by omega), Int.toNat_of_nonneg (by omega), Int.toNat_of_nonneg (by omega), Int.toNat_of_nonneg (by omega)]
theorem eu_if {σ : L2.St} {H : Hp} {t : TT} {ta tb : TE} {b : Bool} {xs : List V} (h : EvT t σ H b) (h1 : b = true → EvU ta σ H xs) (h2 : b = false → EvU tb σ H xs) : EvU (tIf t ta tb) σ H xs := fun H1 e Q q => h H1 e _ fun H2 e2 => by
  cases b with
  | true => exact iteT (h1 rfl H2 (e.trans e2) Q fun p H3 n3 e3 h3 => q p H3 (fresh_back e2 n3) (e2.trans e3) h3)
  | false => exact iteF (h2 rfl H2 (e.trans e2) Q fun p H3 n3 e3 h3 => q p H3 (fresh_back e2 n3) (e2.trans e3) h3)
def Kd.c0 : Kd → Nat
  | .ch => 99 | .sc => 115 | .uc => 117 | .sh => 115 | .us => 117 | .it => 105 | .ui => 117 | .lo => 108 | .ul => 117 | .wi => 119 | .uw => 117
theorem Kd.c0_at (k : Kd) : atI k.s.cps.toList 0 = some k.c0 := by cases k <;> decide +kernel
theorem Kd.s_len (k : Kd) : k.s.length ≤ 100000 := by cases k <;> decide +kernel
/-- kind[0] == 'u' -/
def Kd.isU : Kd → Bool
  | .uc => true | .us => true | .ui => true | .ul => true | .uw => true | _ => false
theorem ev_isU {σ : L2.St} {H : Hp} {ta : TE} {k : Kd} (h : Ev ta σ H k.v) : Ev (tOp rEq (tOp rIxS ta (tC (.int 0))) (tC (.str "u"))) σ H (.bl k.isU) := by
  refine ev_is (ev_op (ev_op h ev_c (rv_ixS k.s_len k.c0_at)) ev_c (rv_eq rfl)) ?_
  cases k <;> decide +kernel
theorem ev_c0 {σ : L2.St} {H : Hp} {ta : TE} {k : Kd} (h : Ev ta σ H k.v) : Ev (tOp rIxS ta (tC (.int 0))) σ H (.str ⟨#[k.c0]⟩) := ev_op h ev_c (rv_ixS k.s_len k.c0_at)
theorem c0_u (k : Kd) : decide (V.str ⟨#[k.c0]⟩ = V.str "u") = k.isU := by cases k <;> decide +kernel
theorem un_isU (m : Md) {k : Kd} (h : k ≠ .ch) : m.un k = k.isU := by
  cases k <;> first | rfl | exact absurd rfl h
theorem big_ch {k : Kd} (h : k.big) : k ≠ .ch := by
  rcases h with rfl | rfl | rfl | rfl | rfl | rfl <;> decide
theorem at_md {K : PySem.W.Frag} {H : Hp} {p t : Addr} {ns : List Int} {u : Bool} {m : Md} (np : H p = none) (ht : H t = some (.tup (ns.map V.int))) (hu : m.u = u) (hw : ns.map V.int = m.ws) : AtM K (upd H p (.tup [.ref t, .str (plS u)])) p m :=
  ⟨t, st_of (by rw [hu]; exact upd_same), st_of (by rw [← hw]; exact Ex.new np _ _ ht)⟩
/-- a list of ints grows in a comprehension that draws -/
def GrW (H : Hp) (r : Addr) (n : Nat) (lo hi : Int) (D : Addr) (i : Nat) (G : Hp) : Prop := H D = none ∧ Bu r H G ∧ Rng G r (n + i) ∧ ∃ xs : List Int, G D = some (.lst (xs.map V.int)) ∧ xs.length = i ∧ ∀ x ∈ xs, lo ≤ x ∧ x ≤ hi
theorem GrW.start {H : Hp} {r : Addr} {n : Nat} {lo hi : Int} {D : Addr} (g : Rng H r n) (nD : H D = none) : GrW H r n lo hi D 0 (upd H D (.lst [])) :=
  ⟨nD, Bu.of (Ex.new nD), g.ex (Ex.new nD), [], upd_same, rfl, fun x hx => nomatch hx⟩
theorem GrW.step {H : Hp} {r : Addr} {n : Nat} {lo hi : Int} {D : Addr} {i : Nat} {G G2 : Hp} {v : Int} (h : GrW H r n lo hi D i G) (g0 : Rng H r n) (b : Bu r G G2) (g : Rng G2 r (n + i + 1)) (hv : lo ≤ v ∧ v ≤ hi) (hi5 : i < 1000) :
    ∃ acc, G2 D = some (.lst acc) ∧ acc.length < sizeLine ∧ GrW H r n lo hi D (i + 1) (upd G2 D (.lst (acc ++ [.int v]))) := by
  obtain ⟨nD, bu, gr, xs, hD, hl, hx⟩ := h
  have nr : D ≠ r := g0.ne_none nD
  refine ⟨xs.map V.int, b _ _ nr hD, by rw [List.length_map, hl]; exact sz_lt (by omega), nD, fun c o nc hc => ?_, ?_, xs ++ [v], ?_, ?_, ?_⟩
  · have ncD : c ≠ D := fun z => by rw [z, nD] at hc; exact nomatch hc
    rw [upd_ne ncD]
    exact b _ _ nc (bu c o nc hc)
  · obtain ⟨d, s, c, a, a1, a2, a3⟩ := g
    exact ⟨d, s, c, by rw [upd_ne (Ne.symm nr)]; exact a, a1, a2, by omega⟩
  · rw [List.map_append]
    exact upd_same
  · rw [List.length_append, hl]
    rfl
  · intro x hx2
    rcases List.mem_append.mp hx2 with z | z
    · exact hx x z
    · rw [List.mem_singleton.mp z]
      exact hv
section
variable {σ : L2.St} {H : Hp} {ta tr : TA} {te : TE} {tt : TT} {g : TG} {vs : List Nat}
theorem cb_raw {r : List V → Hp → VK → Prop} {Q : VK} (h : ta σ H fun vs H1 => r vs H1 Q) : tCB r ta σ H Q := h
theorem cons_raw {Q : List V → Hp → Prop} (h : te σ H fun x H1 => tr σ H1 fun ys H2 => Q (x :: ys) H2) : tCons te tr σ H Q := h
theorem nil_raw {Q : List V → Hp → Prop} (h : Q [] H) : tNil σ H Q := h
theorem lcR_go {n : Int} {Q : VK} (h : EvA ta σ H [.int n]) (hn : 0 ≤ n ∧ n ≤ 40000) (Pv : Addr → Nat → Hp → Prop) (h0 : ∀ D H1, Ex H H1 → H1 D = none → Pv D 0 (upd H1 D (.lst [])))
    (hs : ∀ D (i : Nat) H', (i : Int) < n → Pv D i H' → g (.int (i : Nat)) (wipe σ vs) H' fun σ2 H2 => wipe σ2 vs = wipe σ vs ∧ tt σ2 H2 fun b H3 =>
      if b = true then te σ2 H3 fun y H4 => ∃ acc, H4 D = some (.lst acc) ∧ acc.length < sizeLine ∧ Pv D (i + 1) (upd H4 D (.lst (acc ++ [y]))) else Pv D (i + 1) H3)
    (hd : ∀ D H', Pv D n.toNat H' → Q (.ref D) H') : tLc (iRng1 ta) g tt te vs σ H Q :=
  h H (Ex.refl H) _ fun H1 e1 => ⟨n, rfl, by omega, by omega, fun D nD => lc_range (lo := 0) (n := n.toNat) (Pv D) (h0 D H1 e1 nD) (fun i H' hi p => by
    have e0 : (0 : Int) + (i : Int) = (i : Int) := Int.zero_add _
    rw [e0]
    exact hs D i H' (by omega) p) (hd D)⟩
end
theorem yes_raw {σ : L2.St} {H : Hp} {Q : Bool → Hp → Prop} (h : Q true H) : tYes σ H Q := h
theorem s_raw {te : TE} {D : Ends} {i : Nat} {σ : L2.St} {H : Hp} (h : te σ H fun x H1 => D.nx (σ.set i (some x)) H1) : tAsg te (gName i) D σ H := h
theorem not_raw {t : TT} {σ : L2.St} {H : Hp} {Q : Bool → Hp → Prop} (h : t σ H fun c H1 => Q (!c) H1) : tNot t σ H Q := h
theorem B_raw {te : TE} {σ : L2.St} {H : Hp} {Q : Bool → Hp → Prop} (h : te σ H fun x H1 => ∃ b, x = .bl b ∧ Q b H1) : tB te σ H Q := h
theorem call_raw {sp : Sp} {dvs : List V} {E : XK} {ta : TA} {σ : L2.St} {H : Hp} {Q : VK} (h : ta σ H fun vs H1 => sp (vs ++ dvs) H1 Q E) : tCall sp dvs E ta σ H Q := h
theorem var_raw {i : Nat} {v : V} {σ : L2.St} {H : Hp} {Q : VK} (hj : σ[i]? = some (some v)) (h : Q v H) : tVar i σ H Q := ⟨v, hj, h⟩
theorem c_raw {v : V} {σ : L2.St} {H : Hp} {Q : VK} (h : Q v H) : tC v σ H Q := h
/-- a loop over range(n), n worked out with draws -/
def ForB (n : Nat) (g : TG) (tb : TS) (D : Ends) (σ : L2.St) (H : Hp) : Prop := ∃ W : Nat → Nat → L2.St → Hp → Prop, (∃ m, W 0 m σ H) ∧ ∀ i m σ H, W i m σ H →
  ((Itr 0 n).stop i H ∧ D.nx σ H) ∨ ((Itr 0 n).go i H ∧ ∃ N : L2.St → Hp → Prop, (∀ σ' H', N σ' H' → ∃ m', m' < m ∧ W (i + 1) m' σ' H') ∧ ∀ x H', (Itr 0 n).yld i H x H' → g x σ H' fun σ2 H2 => tb { D with nx := N, ct := N, bk := D.nx } σ2 H2)
theorem qfor_raw {ta : TA} {g : TG} {tu tz : TS} {D : Ends} {σ : L2.St} {H : Hp} (h : ta σ H fun vs H1 => ∃ j : Int, vs = [.int j] ∧ -(2 ^ 62) ≤ j ∧ j < 2 ^ 62 ∧ ForB j.toNat g tu { D with nx := tz D } σ H1) : tSeq (tFor (iRng1 ta) g tu) tz D σ H := h
theorem sfor_raw {ta : TA} {g : TG} {tu : TS} {D : Ends} {σ : L2.St} {H : Hp} (h : ta σ H fun vs H1 => ∃ j : Int, vs = [.int j] ∧ -(2 ^ 62) ≤ j ∧ j < 2 ^ 62 ∧ ForB j.toNat g tu D σ H1) : tFor (iRng1 ta) g tu D σ H := h
theorem forB_of {n j : Nat} {tu : TS} {D : Ends} {σ : L2.St} {H : Hp} (Pv : Nat → L2.St → Hp → Prop) (h0 : Pv 0 σ H) (hs : ∀ (i : Nat) σ' H', i < n → Pv i σ' H' → tu { D with nx := Pv (i + 1), ct := Pv (i + 1), bk := D.nx } (σ'.set j (some (.int (i : Nat)))) H') (hd : ∀ σ' H', Pv n σ' H' → D.nx σ' H') : ForB n (gName j) tu D σ H :=
  for_range (lo := 0) (n := n) Pv h0 (fun i σ' H' hi p => by
    have e0 : (0 : Int) + (i : Int) = (i : Int) := Int.zero_add _
    rw [e0]
    exact hs i σ' H' hi p) hd
end Cf

namespace Cf
open PySem PySem.Spec PyProof.Rows L2 Evl
/-! ## the pool laws' common types -/
section
variable {K : PySem.W.Frag} {σ : L2.St} {H : Hp} {ta tb : TE} {tz : TS} {D : Ends}
theorem ev_indexA {p : Addr} {k : Kd} (ha : Ev ta σ H (.ref p)) (hl : SqL K H p vKINDS) (hb : Ev tb σ H k.v) : Ev (tBM K "list" (rIndex K) ta (tCons tb tNil)) σ H (.int (k.ix : Nat)) := fun H1 e Q q =>
  ha H1 e _ fun H2 e2 => ⟨.inl ⟨rfl, _, ex_l (e.trans e2) hl⟩, hb H2 (e.trans e2) _ fun H3 e3 =>
    ⟨p, vKINDS, k.v, k.ix, k.v, rfl, rfl, ex_l ((e.trans e2).trans e3) hl, rfl, rfl, by cases k <;> rfl, by rw [kd_eq]; exact decide_eq_true rfl, fun m z hm hz => by
      obtain ⟨k2, e4, rfl⟩ := kd_at hz
      rw [kd_eq]
      refine decide_eq_false fun e5 => ?_
      subst e5
      omega, q H3 (e2.trans e3)⟩⟩
theorem q_asgT2 {i j : Nat} {x y : V} {te : TE} (h : EvU te σ H [x, y]) (k : ∀ H1, Ex H H1 → tz D ((σ.set i (some x)).set j (some y)) H1) : tSeq (tAsg te (gTup K 2 (gCons (gName i) (gCons (gName j) gNil)))) tz D σ H :=
  h H (Ex.refl H) _ fun p H1 _ e h1 => ⟨p, _, rfl, st_of h1, rfl, _, _, rfl, _, _, rfl, rfl, k H1 e⟩
theorem q_asgL2 {i j : Nat} {x y : V} {l : Addr} {te : TE} (h : Ev te σ H (.ref l)) (hl : SqL K H l [x, y]) (k : ∀ H1, Ex H H1 → tz D ((σ.set i (some x)).set j (some y)) H1) : tSeq (tAsg te (gUnl K 2 (gCons (gName i) (gCons (gName j) gNil)))) tz D σ H :=
  h H (Ex.refl H) _ fun H1 e => ⟨l, _, rfl, ex_l e hl, rfl, _, _, rfl, _, _, rfl, rfl, k H1 e⟩
end
theorem Md.law_prom (m : Md) (h : m.Ok) (k : Kd) (hk : k.ix < 5) : m.prom k = if (m.un k && decide (m.b k = m.b .it)) = true then .ui else .it := by
  obtain ⟨h0, h1, h2, h3, h4, h5⟩ := h
  unfold Md.prom
  have hr : ¬ 2 ≤ k.rk := by
    revert hk
    cases k <;> decide
  rw [if_neg hr]
  have hb : m.b k ≤ m.b .it := by
    revert hr
    cases k <;> simp only [Md.b, Md.w, Kd.rk] <;> omega
  by_cases hu : m.un k = true
  · rw [hu]
    by_cases e : m.b k = m.b .it
    · rw [if_pos ⟨rfl, by omega⟩, if_pos (by simp [e])]
    · rw [if_neg (fun z => e (by omega)), if_neg (by simp [e])]
  · rw [if_neg (fun z => hu z.1), if_neg (by simp [hu])]
theorem Md.prom_ix (m : Md) (k : Kd) (hk : ¬ k.ix < 5) : m.prom k = k := by
  unfold Md.prom
  rw [if_pos]
  revert hk
  cases k <;> decide
theorem Md.com2_same (m : Md) {a b : Kd} (ha : a.big) (hb : b.big) (h : a.isU = b.isU) : m.com2 a b = if b.ix ≤ a.ix then a else b := by
  rcases ha with rfl | rfl | rfl | rfl | rfl | rfl <;> rcases hb with rfl | rfl | rfl | rfl | rfl | rfl <;> first | (exact absurd h (by decide)) | rfl
theorem Md.com2_mix (m : Md) {a b : Kd} (ha : a.big) (hb : b.big) (h : a.isU ≠ b.isU) : m.com2 a b = if a.isU = true then m.mix a b else m.mix b a := by
  unfold Md.com2
  rw [un_isU m (big_ch ha), un_isU m (big_ch hb), if_neg h]
theorem Md.mix_law (m : Md) {x y : Kd} (hx : x.big) (hy : y.big) (ux : x.isU = true) (uy : y.isU = false) : m.mix x y = if y.ix < x.ix then x else if m.b x < m.b y then y else uKd y.rk := by
  rcases hx with rfl | rfl | rfl | rfl | rfl | rfl <;> rcases hy with rfl | rfl | rfl | rfl | rfl | rfl <;> first | (exact absurd ux (by decide)) | (exact absurd uy (by decide)) | rfl
theorem u_add {y : Kd} (hy : y.big) (uy : y.isU = false) : ("u" : Str) ++ y.s = (uKd y.rk).s := by
  rcases hy with rfl | rfl | rfl | rfl | rfl | rfl <;> first | (exact absurd uy (by decide)) | decide +kernel
theorem u_len {y : Kd} : ("u" : Str).length + y.s.length ≤ sizeLine := sz_of (by cases y <;> decide +kernel)
theorem kd_eq2 (a b : Kd) : decide (a.v = b.v) = decide (a = b) := by cases a <;> cases b <;> decide +kernel
/-- an operation whose left side is a new tuple -/
theorem ev_opU1 {σ : L2.St} {H : Hp} {ta tb : TE} {r : R2} {y z : V} {xs : List V} (ha : EvU ta σ H xs) (hb : ∀ H1, Ex H H1 → Ev tb σ H1 y) (hr : ∀ p H1, H1 p = some (.tup xs) → Ex H H1 → RV r (.ref p) y H1 z) : Ev (tOp r ta tb) σ H z := fun H1 e Q q =>
  ha H1 e _ fun p H2 n2 e2 h2 => hb H2 (e.trans e2) H2 (Ex.refl H2) _ fun H3 e3 => hr p H3 (e3 _ _ h2) ((e.trans e2).trans e3) H3 (Ex.refl H3) _ fun H4 e4 => q H4 ((e2.trans e3).trans e4)
end Cf

set_option exponentiation.threshold 20000
namespace Cf
open PySem PySem.Spec PyProof.Rows L2 Evl
/-! ## repr of data with great ints -/
mutual
def SmW : PyData → Prop
  | .none => True
  | .bool _ => True
  | .int i => i.natAbs < 2 ^ 400
  | .str x => x.cps.size ≤ 30 ∧ (x.cps.toList.all fun c => decide (c < 16 ^ 8)) = true
  | .list xs => SmWAll xs
  | .tuple xs => SmWAll xs
  | .dict _ => False
def SmWAll : List PyData → Prop
  | [] => True
  | x :: xs => SmW x ∧ SmWAll xs
end
theorem int_lenW {i : Int} (h : i.natAbs < 2 ^ 400) : (PyData.shown (.int i)).length ≤ 401 := by
  have h1 := int_text_length_le (a := i) (k := 400) (by decide) (PySem.Flt.log2_lt_of (by decide) h)
  simp only [PyData.shown]
  show (Str.ofString (toString i)).length ≤ 401
  have e : (Str.ofString (toString i)).length = (toString i).length := PySem.ofString_length _
  omega
mutual
theorem smw_all : ∀ d : PyData, SmW d → d.showable = true ∧ d.hasDict = false ∧ d.leavesShort 401 = true ∧ d.weight + 1 ≤ 402 * szD d
  | .none, _ => ⟨by simp only [PyData.showable], by simp only [PyData.hasDict], by simp only [PyData.leavesShort], by simp only [PyData.weight, szD]; omega⟩
  | .bool _, _ => ⟨by simp only [PyData.showable], by simp only [PyData.hasDict], by simp only [PyData.leavesShort], by simp only [PyData.weight, szD]; omega⟩
  | .int i, h => by
    have h1 : i.natAbs < 2 ^ 400 := h
    have h2 : i.natAbs.log2 < 400 := PySem.Flt.log2_lt_of (by decide) h1
    refine ⟨?_, by simp only [PyData.hasDict], ?_, ?_⟩
    · simp only [PyData.showable]
      exact decide_eq_true (by omega)
    · simp only [PyData.leavesShort]
      exact decide_eq_true (int_lenW h1)
    · simp only [PyData.weight, szD]
      split <;> omega
  | .str x, h => by
    have h1 : x.cps.size ≤ 30 ∧ (x.cps.toList.all fun c => decide (c < 16 ^ 8)) = true := h
    refine ⟨by simp only [PyData.showable], by simp only [PyData.hasDict], ?_, ?_⟩
    · simp only [PyData.leavesShort]
      exact h1.2
    · simp only [PyData.weight, szD]
      omega
  | .list xs, h => by
    obtain ⟨a, b, c, e⟩ := smw_alls xs h
    refine ⟨by simp only [PyData.showable]; exact a, by simp only [PyData.hasDict]; exact b, by simp only [PyData.leavesShort]; exact c, ?_⟩
    simp only [PyData.weight, szD]
    omega
  | .tuple xs, h => by
    obtain ⟨a, b, c, e⟩ := smw_alls xs h
    refine ⟨by simp only [PyData.showable]; exact a, by simp only [PyData.hasDict]; exact b, by simp only [PyData.leavesShort]; exact c, ?_⟩
    simp only [PyData.weight, szD]
    omega
  | .dict _, h => h.elim
theorem smw_alls : ∀ ds : List PyData, SmWAll ds → PyData.showableAll ds = true ∧ PyData.hasDictAll ds = false ∧ PyData.leavesShortAll 401 ds = true ∧ PyData.weightAll ds ≤ 402 * szAll ds
  | [], _ => ⟨by simp only [PyData.showableAll], by simp only [PyData.hasDictAll], by simp only [PyData.leavesShortAll], by simp only [PyData.weightAll]; omega⟩
  | x :: xs, h => by
    obtain ⟨a1, b1, c1, e1⟩ := smw_all x h.1
    obtain ⟨a2, b2, c2, e2⟩ := smw_alls xs h.2
    refine ⟨by simp only [PyData.showableAll, a1, a2]; rfl, by simp only [PyData.hasDictAll, b1, b2]; rfl, by simp only [PyData.leavesShortAll, c1, c2]; rfl, ?_⟩
    simp only [PyData.weightAll, szAll]
    omega
end
theorem smw_len {d : PyData} (h : SmW d) (z : szD d ≤ 100) : d.shown.length ≤ sizeLine := by
  obtain ⟨_, _, c, e⟩ := smw_all d h
  have h1 := PyData.shown_le 401 (by decide) d c
  have h2 := sizeLine_eq
  omega
/-! ## values told as data -/
def EvP (K : PySem.W.Frag) (te : TE) (σ : L2.St) (H : Hp) (d : PyData) : Prop := ∀ H1, Ex H H1 → ∀ Q : VK, (∀ v H2, Ex H1 H2 → Dp K H2 v d → Q v H2) → te σ H1 Q
def EvAP (K : PySem.W.Frag) (ta : TA) (σ : L2.St) (H : Hp) (ds : List PyData) : Prop := ∀ H1, Ex H H1 → ∀ Q : List V → Hp → Prop, (∀ vs H2, Ex H1 H2 → DpAll K H2 vs ds → Q vs H2) → ta σ H1 Q
/-- what a def gives as data -/
def PDt (K : PySem.W.Frag) (pre : List V → Hp → PyData → Prop) : Sp := fun vs H Q _ => ∃ d, pre vs H d ∧ ∀ v H', Ex H H' → Dp K H' v d → Q v H'
theorem pre_lenD {K : PySem.W.Frag} {pre : List V → Hp → PyData → Prop} {n : Nat} (h : ∀ vs H v, pre vs H v → vs.length = n) : ∀ vs H Q E, PDt K pre vs H Q E → vs.length = n := fun vs H Q E q => by
  obtain ⟨v, a, _⟩ := q
  exact h _ _ _ a
section
variable {K : PySem.W.Frag} {σ : L2.St} {H : Hp} {ta tb te : TE} {tr : TA} {d e : PyData} {ds es : List PyData} {v : V} {xs vs : List V}
theorem ed_of (h : Ev te σ H v) (hd : ∀ H1, Ex H H1 → Dp K H1 v d) : EvP K te σ H d := fun H1 e Q q => h H1 e _ fun H2 e2 => q v H2 e2 (hd H2 (e.trans e2))
theorem ead_nil : EvAP K tNil σ H [] := fun H1 _ _ q => q [] H1 (Ex.refl H1) .nil
theorem ead_cons (h : EvP K te σ H d) (hr : EvAP K tr σ H ds) : EvAP K (tCons te tr) σ H (d :: ds) := fun H1 e Q q => h H1 e _ fun v H2 e2 hv => hr H2 (e.trans e2) _ fun vs H3 e3 hvs => q (v :: vs) H3 (e2.trans e3) (.cons (dp_ex e3 d v hv) hvs)
theorem dps_len : ∀ {ds : List PyData} {vs : List V}, DpAll K H vs ds → vs.length = ds.length
  | [], _, h => by cases h; rfl
  | d :: ds, _, h => by
    cases h with
    | cons a b => exact congrArg (· + 1) (dps_len b)
theorem ed_lst (h : EvAP K tr σ H ds) (hl : ds.length ≤ 100000) : EvP K (tLst tr) σ H (.list ds) := fun H1 e Q q => h H1 e _ fun vs H2 e2 hvs => ⟨sz_of (by rw [dps_len hvs]; exact hl), fun p np => q (.ref p) _ (e2.trans (Ex.new np)) (.lst (sq_of upd_same) (dps_ex (Ex.new np) ds vs hvs))⟩
theorem ed_tup (h : EvAP K tr σ H ds) (hl : ds.length ≤ 100000) : EvP K (tTup tr) σ H (.tuple ds) := fun H1 e Q q => h H1 e _ fun vs H2 e2 hvs => ⟨sz_of (by rw [dps_len hvs]; exact hl), fun p np => q (.ref p) _ (e2.trans (Ex.new np)) (.tup (st_of upd_same) (dps_ex (Ex.new np) ds vs hvs))⟩
theorem ed_if {t : TT} {b : Bool} (h : EvT t σ H b) (h1 : b = true → EvP K ta σ H d) (h2 : b = false → EvP K tb σ H d) : EvP K (tIf t ta tb) σ H d := fun H1 e Q q => h H1 e _ fun H2 e2 => by
  cases b with
  | true => exact iteT (h1 rfl H2 (e.trans e2) Q fun v H3 e3 h3 => q v H3 (e2.trans e3) h3)
  | false => exact iteF (h2 rfl H2 (e.trans e2) Q fun v H3 e3 h3 => q v H3 (e2.trans e3) h3)
theorem ed_call {sp : List V → Hp → PyData → Prop} {E : XK} {ta : TA} (h : EvA ta σ H vs) (hs : ∀ H1, Ex H H1 → sp vs H1 d) : EvP K (tCall (PDt K sp) [] E ta) σ H d := fun H1 e Q q =>
  h H1 e _ fun H2 e2 => ⟨d, by rw [List.append_nil]; exact hs H2 (e.trans e2), fun v H3 e3 hv => q v H3 (e2.trans e3) hv⟩
theorem ed_kw {sp : List V → Hp → PyData → Prop} {m : Nat} {gV : List V → List V} {E : XK} {tk : TA} {zs : List V} (h : EvA tk σ H zs) (hl : zs.length = m) (hs : ∀ H1, Ex H H1 → sp (gV zs) H1 d) : EvP K (tKw m (PDt K sp) gV E tk) σ H d := fun H1 e Q q =>
  h H1 e _ fun H2 e2 => ⟨hl, d, hs H2 (e.trans e2), fun v H3 e3 hv => q v H3 (e2.trans e3) hv⟩
theorem q_asgD {i : Nat} {tz : TS} {D : Ends} (h : EvP K te σ H d) (k : ∀ v H1, Ex H H1 → Dp K H1 v d → tz D (σ.set i (some v)) H1) : tSeq (tAsg te (gName i)) tz D σ H := h H (Ex.refl H) _ fun v H1 e hv => k v H1 e hv
theorem s_retD {D : Ends} (h : EvP K te σ H d) (k : ∀ v H1, Ex H H1 → Dp K H1 v d → D.rt v H1) : tRet te D σ H := h H (Ex.refl H) _ k
theorem ev_reprP (h : EvP K te σ H (.list ds)) (hs : SmWAll ds) (hz : szD (.list ds) ≤ 100) (hp : (PyData.list ds).depth ≤ 60) : Ev (tCB (rRepr K) (tCons te tNil)) σ H (.str (PyData.shown (.list ds))) := fun H1 e Q q =>
  h H1 e _ fun v H2 e2 hv => by
    cases hv with
    | lst a b => exact ⟨_, .list ds, rfl, .lst a b, (smw_all (.list ds) hs).1, (smw_all (.list ds) hs).2.1, smw_len (d := .list ds) hs hz, hp, q H2 e2⟩
end
/-! ## mixed comparisons -/
def Md.sgn (m : Md) (k l : Kd) : Option Kd := if m.un (m.com k l) = true then (if m.un k = false then some k else if m.un l = false then some l else none) else none
def sgV : Option Kd → V
  | none => .non
  | some k => k.v
def Md.cw (m : Md) (k l : Kd) : Int := match m.sgn k l with
  | none => 0
  | some s => if s = k then 2 ^ (m.b s - 1) * (2 * (2 ^ m.b (m.com k l) - 1) - 2 ^ (m.b s - 1) + 1) / 2 + 2 ^ (m.b s - 1) else 2 ^ (m.b s - 1) * (2 * (2 ^ m.b (m.com k l) - 1) - 2 ^ (m.b s - 1) + 1) / 2
def Md.fw (m : Md) (k l : Kd) : PyData := match m.sgn k l with
  | none => .none
  | some s => if s = k then .tuple [.int (m.low s), .int 0] else .tuple [.int 0, .int (m.low s)]
def preMD (K : PySem.W.Frag) (g : Md → Kd → Kd → PyData) : List V → Hp → PyData → Prop := fun vs H d => ∃ p m k l, vs = [.ref p, k.v, l.v] ∧ AtM K H p m ∧ m.Ok ∧ d = g m k l
theorem Md.prom_un (m : Md) (h : m.Ok) (k : Kd) : (m.un k = false → (m.prom k).isU = false ∧ m.b k ≤ m.b (m.prom k)) ∧ ((m.prom k).isU = true → m.un k = true ∧ m.b k = m.b (m.prom k)) := by
  obtain ⟨h0, h1, h2, h3, h4, h5⟩ := h
  by_cases hr : 2 ≤ k.rk
  · have e : m.prom k = k := by unfold Md.prom; rw [if_pos hr]
    rw [e]
    have hk : k ≠ .ch := fun z => by rw [z] at hr; exact absurd hr (by decide)
    rw [un_isU m hk]
    exact ⟨fun q => ⟨q, Nat.le_refl _⟩, fun q => ⟨q, rfl⟩⟩
  · have hb : m.b k ≤ m.b .it := by
      revert hr
      cases k <;> simp only [Md.b, Md.w, Kd.rk] <;> omega
    unfold Md.prom
    rw [if_neg hr]
    by_cases c : m.un k = true ∧ m.b .it ≤ m.b k
    · rw [if_pos c]
      refine ⟨fun q => ?_, fun q => ⟨c.1, ?_⟩⟩
      · rw [c.1] at q
        exact nomatch q
      · show m.b k = m.b .it
        omega
    · rw [if_neg c]
      exact ⟨fun _ => ⟨rfl, hb⟩, fun q => nomatch q⟩
theorem Md.mix_un (m : Md) (h : m.Ok) {x y : Kd} (hx : x.big) (hy : y.big) (ux : x.isU = true) (uy : y.isU = false) : (m.un (m.mix x y) = true → m.b (m.mix x y) = m.b x ∧ m.b y ≤ m.b x) ∧ (m.un (m.mix x y) = false → m.mix x y = y) := by
  obtain ⟨h0, h1, h2, h3, h4, h5⟩ := h
  rcases hx with rfl | rfl | rfl | rfl | rfl | rfl <;> first | (exact absurd ux (by decide)) | skip
  all_goals (rcases hy with rfl | rfl | rfl | rfl | rfl | rfl <;> first | (exact absurd uy (by decide)) | skip)
  all_goals (simp only [Md.mix, Kd.rk, Md.b, Md.w, uKd] <;> (repeat' split) <;> simp_all [Md.un, Kd.rk, Md.b, Md.w, uKd] <;> omega)
/-- the shape of a pair of types whose common type is unsigned while one of them is signed -/
theorem Md.sgn_cases (m : Md) (h : m.Ok) (k l : Kd) : (m.sgn k l = none ∧ (m.un (m.com k l) = false ∨ m.un k = true ∧ m.un l = true)) ∨
    (m.sgn k l = some k ∧ m.un (m.com k l) = true ∧ m.un k = false ∧ m.un l = true ∧ m.b l = m.b (m.com k l) ∧ m.b k ≤ m.b (m.com k l)) ∨
    (m.sgn k l = some l ∧ k ≠ l ∧ m.un (m.com k l) = true ∧ m.un k = true ∧ m.un l = false ∧ m.b k = m.b (m.com k l) ∧ m.b l ≤ m.b (m.com k l)) := by
  cases hc : m.un (m.com k l) with
  | false => exact .inl ⟨by unfold Md.sgn; rw [hc, if_neg (by decide)], .inl rfl⟩
  | true =>
    have ek : m.com k l = m.com2 (m.prom k) (m.prom l) := rfl
    have pk := m.prom_un h k
    have pl := m.prom_un h l
    have bk := m.prom_big k
    have bl := m.prom_big l
    cases uk : m.un k with
    | false =>
      obtain ⟨u1, b1⟩ := pk.1 uk
      have hs : m.sgn k l = some k := by unfold Md.sgn; rw [hc, if_pos rfl, uk, if_pos rfl]
      cases u2 : (m.prom l).isU with
      | false =>
        have e := m.com2_same bk bl (u1.trans u2.symm)
        rw [ek, e] at hc
        split at hc
        · rw [un_isU m (big_ch bk), u1] at hc
          exact nomatch hc
        · rw [un_isU m (big_ch bl), u2] at hc
          exact nomatch hc
      | true =>
        obtain ⟨ul, b2⟩ := pl.2 u2
        have e := m.com2_mix bk bl (by rw [u1, u2]; decide)
        rw [u1, if_neg (by decide)] at e
        have mu := m.mix_un h bl bk u2 u1
        rw [ek, e] at hc ⊢
        obtain ⟨m1, m2⟩ := mu.1 hc
        exact .inr (.inl ⟨hs, rfl, rfl, ul, by omega, by omega⟩)
    | true =>
      cases ul : m.un l with
      | true => exact .inl ⟨by unfold Md.sgn; rw [hc, if_pos rfl, uk, ul]; rfl, .inr ⟨rfl, rfl⟩⟩
      | false =>
        obtain ⟨u2, b2⟩ := pl.1 ul
        have hs : m.sgn k l = some l := by unfold Md.sgn; rw [hc, if_pos rfl, uk, ul]; rfl
        have nkl : k ≠ l := fun z => by rw [z, ul] at uk; exact nomatch uk
        cases u1 : (m.prom k).isU with
        | false =>
          have e := m.com2_same bk bl (u1.trans u2.symm)
          rw [ek, e] at hc
          split at hc
          · rw [un_isU m (big_ch bk), u1] at hc
            exact nomatch hc
          · rw [un_isU m (big_ch bl), u2] at hc
            exact nomatch hc
        | true =>
          obtain ⟨uk2, b1⟩ := pk.2 u1
          have e := m.com2_mix bk bl (by rw [u1, u2]; decide)
          rw [u1, if_pos rfl] at e
          have mu := m.mix_un h bk bl u1 u2
          rw [ek, e] at hc ⊢
          obtain ⟨m1, m2⟩ := mu.1 hc
          exact .inr (.inr ⟨hs, nkl, rfl, rfl, rfl, by omega, by omega⟩)
theorem q_par3 {σ : L2.St} {H : Hp} {ta tb tc : TE} {tz : TS} {D : Ends} {i j l : Nat} {x y z : V} (ha : Ev ta σ H x) (hb : Ev tb σ H y) (hc : Ev tc σ H z) (k : ∀ H1, Ex H H1 → tz D (((σ.set i (some x)).set j (some y)).set l (some z)) H1) : tSeq (tPar3 i j l (tCons ta (tCons tb (tCons tc tNil)))) tz D σ H :=
  ha H (Ex.refl H) _ fun H1 e1 => hb H1 e1 _ fun H2 e2 => hc H2 (e1.trans e2) _ fun H3 e3 => ⟨x, y, z, rfl, k H3 (e1.trans (e2.trans e3))⟩
theorem ed_eq {K : PySem.W.Frag} {σ : L2.St} {H : Hp} {ta tb : TE} {d e : PyData} {b : Bool} (ha : EvP K ta σ H d) (hb : EvP K tb σ H e) (sd : SeqAt.shaped d = true) (se : SeqAt.shaped e = true) (hq : PyData.eqv d e = b) : Ev (tOp (rEqD K) ta tb) σ H (.bl b) := fun H1 e1 Q q =>
  ha H1 e1 _ fun x H2 e2 hx => hb H2 (e1.trans e2) _ fun y H3 e3 hy => ⟨d, e, dp_ex e3 d x hx, hy, sd, se, by rw [hq]; exact q H3 (e2.trans e3)⟩
theorem Md.low_un (m : Md) {k : Kd} (h : m.un k = true) : m.low k = 0 := by unfold Md.low; rw [if_pos h]
theorem Md.low_sg (m : Md) {k : Kd} (h : m.un k = false) : m.low k = -(2 ^ (m.b k - 1)) ∧ m.low k < 0 := by
  have e : m.low k = -(2 ^ (m.b k - 1)) := by unfold Md.low; rw [if_neg (by rw [h]; decide)]
  have p := p2 (m.b k - 1)
  exact ⟨e, by omega⟩
theorem Md.high_un (m : Md) {k : Kd} (h : m.un k = true) : m.high k = 2 ^ m.b k - 1 := by unfold Md.high; rw [if_pos h]
def fallen (many high top : Int) : Int :=
  (if (if top - many + 1 > 0 then top - many + 1 else 0) < high + 1 then (if top - many + 1 > 0 then top - many + 1 else 0) else high + 1) * many +
    (high + 1 - (if (if top - many + 1 > 0 then top - many + 1 else 0) < high + 1 then (if top - many + 1 > 0 then top - many + 1 else 0) else high + 1)) *
      (top - (if (if top - many + 1 > 0 then top - many + 1 else 0) < high + 1 then (if top - many + 1 > 0 then top - many + 1 else 0) else high + 1) + top - high) / 2
theorem half_sum (a b c : Int) (h : 2 * a + b = c) : a + b / 2 = c / 2 := by omega
/-- rows that fall by one, from below or with the ends -/
theorem fallen_a {a b : Int} (h1 : 1 ≤ a) (h2 : a ≤ b) : fallen a (b - 1) b = a * (2 * (b - 1) - a + 1) / 2 + a := by
  unfold fallen
  have c1 : b - a + 1 > 0 := by omega
  rw [if_pos c1]
  have e1 : b - 1 + 1 = b := by omega
  rw [e1]
  have e2 : (if b - a + 1 < b then b - a + 1 else b) = b - a + 1 := by split <;> omega
  rw [e2]
  have e3 : b - (b - a + 1) = a - 1 := by omega
  have e4 : b - (b - a + 1) + b - (b - 1) = a := by omega
  rw [e4, e3]
  have k1 : (b - a + 1) * a = b * a - a * a + a := by rw [Int.add_mul, Int.sub_mul, Int.one_mul]
  have k2 : (a - 1) * a = a * a - a := by rw [Int.sub_mul, Int.one_mul]
  have k3 : a * (2 * (b - 1) - a + 1) = 2 * (b * a) - a * a - a := by
    rw [Int.mul_add, Int.mul_sub, Int.mul_one, Int.mul_comm a (2 * (b - 1)), Int.mul_assoc, Int.sub_mul, Int.one_mul, Int.mul_sub]
    omega
  rw [k1, k2, k3]
  generalize b * a = x
  generalize a * a = y
  omega
theorem fallen_b {a b : Int} (h1 : 1 ≤ a) (h2 : a ≤ b) : fallen a (b - 1) (b - 1) = a * (2 * (b - 1) - a + 1) / 2 := by
  unfold fallen
  have e1 : b - 1 + 1 = b := by omega
  have e2 : (if b - 1 - a + 1 > 0 then b - 1 - a + 1 else 0) = b - a := by split <;> omega
  rw [e2, e1]
  have e3 : (if b - a < b then b - a else b) = b - a := by split <;> omega
  rw [e3]
  have e4 : b - (b - a) = a := by omega
  have e5 : b - 1 - (b - a) + (b - 1) - (b - 1) = a - 1 := by omega
  rw [e4, e5]
  have k1 : (b - a) * a = b * a - a * a := by rw [Int.sub_mul]
  have k2 : a * (a - 1) = a * a - a := by rw [Int.mul_sub, Int.mul_one]
  have k3 : a * (2 * (b - 1) - a + 1) = 2 * (b * a) - a * a - a := by
    rw [Int.mul_add, Int.mul_sub, Int.mul_one, Int.mul_comm a (2 * (b - 1)), Int.mul_assoc, Int.sub_mul, Int.one_mul, Int.mul_sub]
    omega
  rw [k1, k2, k3]
  generalize b * a = x
  generalize a * a = y
  omega
theorem pow_lt128 {n : Nat} (h : n ≤ 128) : (2 : Int) ^ n ≤ 2 ^ 128 := by
  have : (2 : Nat) ^ n ≤ 2 ^ 128 := Nat.pow_le_pow_right (by decide) h
  exact_mod_cast this
theorem Md.cw_small (m : Md) (h : m.Ok) (k l : Kd) : (m.cw k l).natAbs < 2 ^ 400 := by
  unfold Md.cw
  cases hs : m.sgn k l with
  | none => show (0 : Int).natAbs < 2 ^ 400; decide
  | some s =>
    have a0 := p2 (m.b s - 1)
    have b0 := p2 (m.b (m.com k l))
    have a1 := pow_lt128 (n := m.b s - 1) (by have := (h.b s).2; omega)
    have b1 := pow_lt128 (n := m.b (m.com k l)) (h.b _).2
    simp only []
    generalize (2 : Int) ^ (m.b s - 1) = a at *
    generalize (2 : Int) ^ m.b (m.com k l) = b at *
    have e : (a * (2 * (b - 1) - a + 1)).natAbs < 2 ^ (140 + 140) := wide_lt (by omega) (by omega)
    generalize a * (2 * (b - 1) - a + 1) = x at *
    split <;> omega
theorem Md.fw_small (m : Md) (h : m.Ok) (k l : Kd) : SmW (m.fw k l) ∧ szD (m.fw k l) ≤ 3 ∧ (m.fw k l).depth ≤ 3 := by
  unfold Md.fw
  cases hs : m.sgn k l with
  | none => exact ⟨trivial, by simp [szD], by simp [PyData.depth]⟩
  | some s =>
    have hl := (m.small h s).1
    have hl2 : SmW (.int (m.low s)) := by show (m.low s).natAbs < 2 ^ 400; omega
    have h0 : SmW (.int 0) := by show (0 : Int).natAbs < 2 ^ 400; decide
    simp only []
    split
    · exact ⟨⟨hl2, h0, trivial⟩, by simp [szD, szAll], by simp [PyData.depth, PyData.depthAll]⟩
    · exact ⟨⟨h0, hl2, trivial⟩, by simp [szD, szAll], by simp [PyData.depth, PyData.depthAll]⟩
def preFal : List V → Hp → V → Prop := fun vs H v => ∃ a b c : Int, vs = [.int a, .int b, .int c] ∧ a.natAbs < 2 ^ 140 ∧ b.natAbs < 2 ^ 140 ∧ c.natAbs < 2 ^ 140 ∧ v = .int (fallen a b c)
theorem spFal {H : Hp} {a b c : Int} (h1 : a.natAbs < 2 ^ 140) (h2 : b.natAbs < 2 ^ 140) (h3 : c.natAbs < 2 ^ 140) : SpV (PV preFal) [.int a, .int b, .int c] H (.int (fallen a b c)) := PV.sp fun H1 e => ⟨a, b, c, rfl, h1, h2, h3, rfl⟩
def mixD (m : Md) (k l : Kd) : PyData := .list [.int (m.cw k l), m.fw k l]
theorem mixD_ok (m : Md) (h : m.Ok) (k l : Kd) : SmWAll [.int (m.cw k l), m.fw k l] ∧ szD (mixD m k l) ≤ 100 ∧ (mixD m k l).depth ≤ 60 := by
  obtain ⟨a, b, c⟩ := m.fw_small h k l
  refine ⟨⟨m.cw_small h k l, a, trivial⟩, ?_, ?_⟩
  · simp only [mixD, szD, szAll]
    omega
  · simp only [mixD, PyData.depth, PyData.depthAll]
    omega
end Cf

set_option exponentiation.threshold 20000
namespace Cf
open PySem PySem.Spec PyProof.Rows L2 Evl
/-! ## comparisons that go wrong, tried one by one -/
theorem kd_draw {K : PySem.W.Frag} {σ : L2.St} {H : Hp} {r : Addr} {n j : Nat} {E E2 : XK} {Q : VK} (g : Rng H r n) (hn : n < 2 ^ 60) (hj : σ[j]? = some (some (.ref r))) (k : ∀ H' kd, Bu r H H' → Rng H' r (n + 1) → Q (Kd.v kd) H') :
    tOp (rIxL K) (tCall (PL (preNil vKINDS)) [] E tNil) (tCall spDraw [] E2 (tCons (tVar j) (tCons (tC (.int 11)) tNil))) σ H Q := by
  refine op_raw ((show EvL (tCall (PL (preNil vKINDS)) [] E tNil) σ H vKINDS from el_call ea_nil (PL.sp fun H7 e7 => ⟨rfl, rfl⟩)) H (Ex.refl H) _ fun t H1 n1 e1 h1 => ?_)
  have g1 := g.ex e1
  have htr : t ≠ r := by
    obtain ⟨d, s, c, q, _⟩ := g
    exact fun z => by rw [z, q] at n1; exact nomatch n1
  refine draw_at (l := 11) (n := n) (ea_cons (ev_var hj) (ea_cons ev_c ea_nil)) (by decide) (log_small (by decide)) hn g1 fun H2 v b2 g2 v0 v1 => ?_
  obtain ⟨i, rfl⟩ : ∃ i : Nat, v = (i : Int) := ⟨v.toNat, by omega⟩
  have hi : i < vKINDS.length := by show i < 11; omega
  obtain ⟨kd, _, hkd⟩ := kd_at (List.getElem?_eq_getElem hi)
  exact ⟨t, _, (i : Int), _, rfl, rfl, sq_of (b2 _ _ htr h1), atI_nat ((List.getElem?_eq_getElem hi).trans (by rw [hkd])), k H2 kd ((Bu.of e1).trans b2) g2⟩
def wrB (x y : Bool) : Bool := !decide (V.bl x = V.bl y)
theorem wrB_eq (x y : Bool) : wrB x y = (x != y) := by cases x <;> cases y <;> decide
def Md.wr (m : Md) (c : Kd) (l r : Int) : Bool := wrB (decide (m.conv c l < m.conv c r)) (decide (l < r))
def rowW (f : Int → Bool) (l b : Int) : Nat → List (Int × Int) → List (Int × Int)
  | 0, w => w
  | n + 1, w => if f (b + n) = true then rowW f l b n w ++ [(l, b + n)] else rowW f l b n w
def totW (f : Int → Int → Bool) (a b : Int) (n2 : Nat) : Nat → List (Int × Int)
  | 0 => []
  | n + 1 => rowW (f (a + n)) (a + n) b n2 (totW f a b n2 n)
abbrev Cnt := Nat × Option (Int × Int)
def rowC (f : Int → Bool) (l b : Int) : Nat → Cnt → Cnt
  | 0, w => w
  | n + 1, w => if f (b + n) = true then ((rowC f l b n w).1 + 1, (rowC f l b n w).2.or (some (l, b + n))) else rowC f l b n w
def totC (f : Int → Int → Bool) (a b : Int) (n2 : Nat) : Nat → Cnt
  | 0 => (0, none)
  | n + 1 => rowC (f (a + n)) (a + n) b n2 (totC f a b n2 n)
def cntOf (w : List (Int × Int)) : Cnt := (w.length, w.head?)
theorem row_cnt (f : Int → Bool) (l b : Int) : ∀ (n : Nat) (w : List (Int × Int)), cntOf (rowW f l b n w) = rowC f l b n (cntOf w)
  | 0, w => rfl
  | n + 1, w => by
    have ih := row_cnt f l b n w
    simp only [rowW, rowC]
    split
    · rw [← ih]
      simp [cntOf]
    · exact ih
theorem tot_cnt (f : Int → Int → Bool) (a b : Int) (n2 : Nat) : ∀ n, cntOf (totW f a b n2 n) = totC f a b n2 n
  | 0 => rfl
  | n + 1 => by rw [totW, row_cnt, tot_cnt f a b n2 n]; rfl
theorem row_len (f : Int → Bool) (l b : Int) : ∀ (n : Nat) (w : List (Int × Int)), (rowW f l b n w).length ≤ w.length + n
  | 0, w => Nat.le_refl _
  | n + 1, w => by
    have ih := row_len f l b n w
    simp only [rowW]
    split
    · rw [List.length_append]
      simp only [List.length_singleton]
      omega
    · omega
theorem tot_len (f : Int → Int → Bool) (a b : Int) (n2 : Nat) : ∀ n, (totW f a b n2 n).length ≤ n * n2
  | 0 => by simp [totW]
  | n + 1 => by
    have h := row_len (f (a + n)) (a + n) b n2 (totW f a b n2 n)
    have ih := tot_len f a b n2 n
    rw [totW, Nat.succ_mul]
    omega
theorem row_no {f : Int → Bool} {l b : Int} : ∀ {n : Nat} {w : List (Int × Int)}, (∀ i : Nat, i < n → f (b + i) = false) → rowW f l b n w = w
  | 0, w, _ => rfl
  | n + 1, w, h => by
    simp only [rowW]
    rw [h n (Nat.lt_succ_self n), if_neg (by decide)]
    exact row_no fun i hi => h i (by omega)
theorem tot_no {f : Int → Int → Bool} {a b : Int} {n2 : Nat} : ∀ {n : Nat}, (∀ i j : Nat, i < n → j < n2 → f (a + i) (b + j) = false) → totW f a b n2 n = []
  | 0, _ => rfl
  | n + 1, h => by
    rw [totW, tot_no fun i j hi hj => h i j (by omega) hj]
    exact row_no fun j hj => h n j (Nat.lt_succ_self n) hj
theorem row_ext {f g : Int → Bool} {l b : Int} : ∀ {n : Nat} {w : List (Int × Int)}, (∀ i : Nat, i < n → f (b + i) = g (b + i)) → rowW f l b n w = rowW g l b n w
  | 0, w, _ => rfl
  | n + 1, w, h => by
    simp only [rowW]
    rw [h n (Nat.lt_succ_self n), row_ext fun i hi => h i (by omega)]
theorem tot_ext {f g : Int → Int → Bool} {a b : Int} {n2 : Nat} : ∀ {n : Nat}, (∀ i j : Nat, i < n → j < n2 → f (a + i) (b + j) = g (a + i) (b + j)) → totW f a b n2 n = totW g a b n2 n
  | 0, _ => rfl
  | n + 1, h => by
    rw [totW, totW, tot_ext fun i j hi hj => h i j (by omega) hj]
    exact row_ext fun j hj => h n j (Nat.lt_succ_self n) hj
/-- an integer becomes one of an unsigned type of n bits -/
def cnU (n : Nat) (i : Int) : Int := i % 2 ^ n
def wrU (n : Nat) (l r : Int) : Bool := (decide (cnU n l < cnU n r) != decide (l < r))
/-- the first type is signed, of s bits; the second one unsigned, of n bits -/
def chkB (s n : Nat) : Bool := decide (totC (wrU n) (-(2 ^ (s - 1))) 0 (2 ^ n) (2 ^ s) = ((2 ^ (s - 1) * (2 * (2 ^ n - 1) - 2 ^ (s - 1) + 1) / 2 + 2 ^ (s - 1) : Int).toNat, some (-(2 ^ (s - 1)), 0)))
def chkC (s n : Nat) : Bool := decide (totC (wrU n) 0 (-(2 ^ (s - 1))) (2 ^ s) (2 ^ n) = ((2 ^ (s - 1) * (2 * (2 ^ n - 1) - 2 ^ (s - 1) + 1) / 2 : Int).toNat, some (0, -(2 ^ (s - 1)))))
theorem all_B : ∀ s, 2 ≤ s → s ≤ 5 → ∀ n, 2 ≤ n → n ≤ 5 → s ≤ n → chkB s n = true
  | 2, _, _, 2, _, _, _ => by decide +kernel
  | 2, _, _, 3, _, _, _ => by decide +kernel
  | 2, _, _, 4, _, _, _ => by decide +kernel
  | 2, _, _, 5, _, _, _ => by decide +kernel
  | 3, _, _, 3, _, _, _ => by decide +kernel
  | 3, _, _, 4, _, _, _ => by decide +kernel
  | 3, _, _, 5, _, _, _ => by decide +kernel
  | 4, _, _, 4, _, _, _ => by decide +kernel
  | 4, _, _, 5, _, _, _ => by decide +kernel
  | 5, _, _, 5, _, _, _ => by decide +kernel
  | 0, h, _, _, _, _, _ => absurd h (by decide)
  | 1, h, _, _, _, _, _ => absurd h (by decide)
  | s + 6, _, h, _, _, _, _ => absurd h (by omega)
  | _, _, _, 0, h, _, _ => absurd h (by decide)
  | _, _, _, 1, h, _, _ => absurd h (by decide)
  | _, _, _, n + 6, _, h, _ => absurd h (by omega)
  | 3, _, _, 2, _, _, h => absurd h (by decide)
  | 4, _, _, 2, _, _, h => absurd h (by decide)
  | 4, _, _, 3, _, _, h => absurd h (by decide)
  | 5, _, _, 2, _, _, h => absurd h (by decide)
  | 5, _, _, 3, _, _, h => absurd h (by decide)
  | 5, _, _, 4, _, _, h => absurd h (by decide)
theorem all_C : ∀ s, 2 ≤ s → s ≤ 5 → ∀ n, 2 ≤ n → n ≤ 5 → s ≤ n → chkC s n = true
  | 2, _, _, 2, _, _, _ => by decide +kernel
  | 2, _, _, 3, _, _, _ => by decide +kernel
  | 2, _, _, 4, _, _, _ => by decide +kernel
  | 2, _, _, 5, _, _, _ => by decide +kernel
  | 3, _, _, 3, _, _, _ => by decide +kernel
  | 3, _, _, 4, _, _, _ => by decide +kernel
  | 3, _, _, 5, _, _, _ => by decide +kernel
  | 4, _, _, 4, _, _, _ => by decide +kernel
  | 4, _, _, 5, _, _, _ => by decide +kernel
  | 5, _, _, 5, _, _, _ => by decide +kernel
  | 0, h, _, _, _, _, _ => absurd h (by decide)
  | 1, h, _, _, _, _, _ => absurd h (by decide)
  | s + 6, _, h, _, _, _, _ => absurd h (by omega)
  | _, _, _, 0, h, _, _ => absurd h (by decide)
  | _, _, _, 1, h, _, _ => absurd h (by decide)
  | _, _, _, n + 6, _, h, _ => absurd h (by omega)
  | 3, _, _, 2, _, _, h => absurd h (by decide)
  | 4, _, _, 2, _, _, h => absurd h (by decide)
  | 4, _, _, 3, _, _, h => absurd h (by decide)
  | 5, _, _, 2, _, _, h => absurd h (by decide)
  | 5, _, _, 3, _, _, h => absurd h (by decide)
  | 5, _, _, 4, _, _, h => absurd h (by decide)
def pairD (p : Int × Int) : PyData := .tuple [.int p.1, .int p.2]
def optP : Option (Int × Int) → PyData
  | none => .none
  | some p => pairD p
theorem Md.conv_id (m : Md) (h : m.Ok) (c : Kd) {i : Int} (h1 : m.low c ≤ i) (h2 : i ≤ m.high c) : m.conv c i = i := by
  have e := m.span h c
  unfold Md.conv
  rw [Int.emod_eq_of_lt (by omega) (by omega)]
  omega
theorem Md.conv_un (m : Md) (h : m.Ok) {c : Kd} (u : m.un c = true) (i : Int) : m.conv c i = cnU (m.b c) i := by
  have e := m.span h c
  unfold Md.conv cnU
  rw [e, m.low_un u, Int.sub_zero, Int.add_zero]
/-- all pairs of a row of each range, tried -/
def Md.tried (m : Md) (k l : Kd) : List (Int × Int) := totW (m.wr (m.com k l)) (m.low k) (m.low l) (2 ^ m.b l) (2 ^ m.b k)
theorem nat_pow_cast (n : Nat) : (((2 : Nat) ^ n : Nat) : Int) = 2 ^ n := by
  rw [Int.natCast_pow]
  rfl
theorem Md.tried_ok (m : Md) (h : m.Ok) (h5 : m.w4 ≤ 5) (k l : Kd) : ((m.tried k l).length : Int) = m.cw k l ∧ optP (m.tried k l).head? = m.fw k l := by
  have hb : ∀ z, 2 ≤ m.b z ∧ m.b z ≤ 5 := fun z => ⟨(h.b z).1, by
    have e : m.b z ≤ m.w4 := by
      obtain ⟨h0, h1, h2, h3, h4, _⟩ := h
      cases z <;> simp only [Md.b, Md.w, Kd.rk] <;> omega
    omega⟩
  have hw : m.un (m.com k l) = true → m.tried k l = totW (wrU (m.b (m.com k l))) (m.low k) (m.low l) (2 ^ m.b l) (2 ^ m.b k) := fun u => by
    unfold Md.tried
    refine tot_ext fun i j _ _ => ?_
    unfold Md.wr wrU
    rw [wrB_eq, m.conv_un h u, m.conv_un h u]
  rcases m.sgn_cases h k l with ⟨hs, hA⟩ | ⟨hs, hc, uk, ul, bl, bk⟩ | ⟨hs, nkl, hc, uk, ul, bk, bl⟩
  · have e : m.tried k l = [] := by
      refine tot_no fun i j hi hj => ?_
      have ok := m.com_ok h k l
      have ok2 := m.com_ok h l k
      rw [m.com_comm l k] at ok2
      have hk := m.span h k
      have hl := m.span h l
      have ck := nat_pow_cast (m.b k)
      have cl := nat_pow_cast (m.b l)
      have hlo : m.low (m.com k l) ≤ m.low k ∧ m.low (m.com k l) ≤ m.low l := by
        rcases hA with hu | ⟨u1, u2⟩
        · have := (m.low_sg hu).2
          exact ⟨ok.2.2 this, ok2.2.2 this⟩
        · rw [m.low_un u1, m.low_un u2]
          exact ⟨(m.low_le _).1, (m.low_le _).1⟩
      unfold Md.wr
      rw [wrB_eq, m.conv_id h _ (by omega) (by omega), m.conv_id h _ (by omega) (by omega)]
      cases decide (m.low k + ↑i < m.low l + ↑j) <;> rfl
    rw [e]
    unfold Md.cw Md.fw
    rw [hs]
    exact ⟨rfl, rfl⟩
  · have e := hw hc
    have c := tot_cnt (wrU (m.b (m.com k l))) (m.low k) (m.low l) (2 ^ m.b l) (2 ^ m.b k)
    rw [← e] at c
    have q := all_B (m.b k) (hb k).1 (hb k).2 (m.b (m.com k l)) (hb _).1 (hb _).2 bk
    rw [(m.low_sg uk).1, m.low_un ul, bl, of_decide_eq_true q] at c
    obtain ⟨c1, c2⟩ := Prod.mk.inj c
    have a0 := p2 (m.b k - 1)
    have le : (2 : Int) ^ (m.b k - 1) ≤ 2 ^ m.b (m.com k l) := by
      have : (2 : Nat) ^ (m.b k - 1) ≤ 2 ^ m.b (m.com k l) := Nat.pow_le_pow_right (by decide) (by omega)
      exact_mod_cast this
    have nn : 0 ≤ (2 : Int) ^ (m.b k - 1) * (2 * (2 ^ m.b (m.com k l) - 1) - 2 ^ (m.b k - 1) + 1) := Int.mul_nonneg (by omega) (by omega)
    rw [c2]
    unfold Md.cw Md.fw
    rw [hs]
    simp only [if_pos]
    refine ⟨?_, by rw [(m.low_sg uk).1]; rfl⟩
    rw [c1, Int.toNat_of_nonneg (by omega)]
  · have e := hw hc
    have c := tot_cnt (wrU (m.b (m.com k l))) (m.low k) (m.low l) (2 ^ m.b l) (2 ^ m.b k)
    rw [← e] at c
    have q := all_C (m.b l) (hb l).1 (hb l).2 (m.b (m.com k l)) (hb _).1 (hb _).2 bl
    rw [(m.low_sg ul).1, m.low_un uk, bk, of_decide_eq_true q] at c
    obtain ⟨c1, c2⟩ := Prod.mk.inj c
    have a0 := p2 (m.b l - 1)
    have le : (2 : Int) ^ (m.b l - 1) ≤ 2 ^ m.b (m.com k l) := by
      have : (2 : Nat) ^ (m.b l - 1) ≤ 2 ^ m.b (m.com k l) := Nat.pow_le_pow_right (by decide) (by omega)
      exact_mod_cast this
    have nn : 0 ≤ (2 : Int) ^ (m.b l - 1) * (2 * (2 ^ m.b (m.com k l) - 1) - 2 ^ (m.b l - 1) + 1) := Int.mul_nonneg (by omega) (by omega)
    rw [c2]
    unfold Md.cw Md.fw
    rw [hs]
    simp only [if_neg (Ne.symm nkl)]
    refine ⟨?_, by rw [(m.low_sg ul).1]; rfl⟩
    rw [c1, Int.toNat_of_nonneg (by omega)]
theorem pairs_lay : ∀ w : List (Int × Int), PyData.canLayAll0 (w.map pairD) = true
  | [] => by simp [PyData.canLayAll0]
  | p :: w => by
    have ih := pairs_lay w
    simp only [List.map_cons, PyData.canLayAll0, pairD, PyData.canLay0, Bool.and_true, Bool.true_and]
    exact ih
theorem pairs_depth : ∀ w : List (Int × Int), PyData.depthAll (w.map pairD) ≤ 3
  | [] => by simp [PyData.depthAll]
  | p :: w => by
    have ih := pairs_depth w
    simp only [List.map_cons, PyData.depthAll, pairD, PyData.depth]
    omega
theorem pairs_shaped (w : List (Int × Int)) : SeqAt.shaped (.list (w.map pairD)) = true := by
  have h1 := pairs_depth w
  show (PyData.canLay0 (.list (w.map pairD)) && decide (PyData.depth (.list (w.map pairD)) ≤ 64)) = true
  rw [Bool.and_eq_true]
  refine ⟨by simp only [PyData.canLay0]; exact pairs_lay w, decide_eq_true ?_⟩
  simp only [PyData.depth]
  omega
theorem pairs_nil (w : List (Int × Int)) : PyData.eqv (.list (w.map pairD)) (.list []) = decide (w = []) := by cases w <;> simp [PyData.eqv, PyData.eqvAll]
section
variable {K : PySem.W.Frag} {σ : L2.St} {H : Hp} {ta tb te : TE} {tu tz : TS} {D : Ends}
theorem dps_at : ∀ {ds : List PyData} {vs : List V}, vs.length = ds.length → (∀ (j : Nat) (d : PyData), ds[j]? = some d → ∃ v, vs[j]? = some v ∧ Dp K H v d) → DpAll K H vs ds
  | [], [], _, _ => .nil
  | d :: ds, v :: vs, hl, h => by
    obtain ⟨v2, h1, h2⟩ := h 0 d rfl
    cases h1
    exact .cons h2 (dps_at (Nat.succ.inj hl) fun j e hj => h (j + 1) e hj)
  | [], _ :: _, hl, _ => nomatch hl
  | _ :: _, [], hl, _ => nomatch hl
/-- a list of data is not the empty one -/
theorem ev_neDE {ds : List PyData} {b : Bool} (ha : EvP K ta σ H (.list ds)) (sd : SeqAt.shaped (.list ds) = true) (hq : PyData.eqv (.list ds) (.list []) = b) : Ev (tOp (rNeD K) ta (tLst tNil)) σ H (.bl (!b)) := fun H1 e1 Q q =>
  ha H1 e1 _ fun x H2 e2 hx => (el_lst (σ := σ) (H := H2) ea_nil (by decide)) H2 (Ex.refl H2) _ fun p H3 n3 e3 h3 => ⟨.list ds, .list [], dp_ex e3 _ x hx, .lst (sq_of h3) .nil, sd, by decide +kernel, by rw [hq]; exact q H3 (e2.trans e3)⟩
theorem s_forR2g {ta : TA} {j : Nat} {lo n : Int} (h : EvA ta σ H [.int lo, .int n]) (hn : -100000 ≤ lo ∧ lo ≤ 100000 ∧ -100000 ≤ n ∧ n ≤ 100000) (Pv : Nat → L2.St → Hp → Prop) (h0 : ∀ H1, Ex H H1 → Pv 0 σ H1)
    (hs : ∀ (i : Nat) σ' H', lo + (i : Int) < n → Pv i σ' H' → tu { D with nx := Pv (i + 1), ct := Pv (i + 1), bk := D.nx } (σ'.set j (some (.int (lo + (i : Int))))) H') (hd : ∀ σ' H', Pv (n - lo).toNat σ' H' → D.nx σ' H') : tFor (iRng2 ta) (gName j) tu D σ H :=
  h H (Ex.refl H) _ fun H1 e1 => ⟨lo, n, rfl, by omega, for_range (D := D) Pv (h0 H1 e1) (fun i σ' H' hi p => hs i σ' H' (by omega) p) hd⟩
theorem q_forR2g {ta : TA} {j : Nat} {lo n : Int} (h : EvA ta σ H [.int lo, .int n]) (hn : -100000 ≤ lo ∧ lo ≤ 100000 ∧ -100000 ≤ n ∧ n ≤ 100000) (Pv : Nat → L2.St → Hp → Prop) (h0 : ∀ H1, Ex H H1 → Pv 0 σ H1)
    (hs : ∀ (i : Nat) σ' H', lo + (i : Int) < n → Pv i σ' H' → tu { D with nx := Pv (i + 1), ct := Pv (i + 1), bk := tz D } (σ'.set j (some (.int (lo + (i : Int))))) H') (hd : ∀ σ' H', Pv (n - lo).toNat σ' H' → tz D σ' H') : tSeq (tFor (iRng2 ta) (gName j) tu) tz D σ H :=
  s_forR2g (D := { D with nx := tz D }) h hn Pv h0 hs hd
end
end Cf

set_option exponentiation.threshold 20000
namespace Cf
open PySem PySem.Spec PyProof.Rows L2 Evl
/-! ## mathematical values -/
def Bo.op : Bo → Int → Int → Int
  | .add, a, b => a + b | .sub, a, b => a - b | .mul, a, b => a * b
mutual
def Nd.num (g : Str → Int) : Nd → Int
  | .var x => g x
  | .lit n _ => n
  | .cast _ e => e.num g
  | .neg e => - e.num g
  | .bin o e f => o.op (e.num g) (f.num g)
  | .sh true e k => e.num g * 2 ^ k.toNat
  | .sh false e k => e.num g / 2 ^ k.toNat
  | .ite c e f => if c.tru g = true then e.num g else f.num g
  | .cmp _ _ _ => 0
  | .nt _ => 0
  | .lg _ _ _ => 0
def Nd.tru (g : Str → Int) : Nd → Bool
  | .cmp true e f => decide (e.num g < f.num g)
  | .cmp false e f => decide (e.num g ≤ f.num g)
  | .nt c => !c.tru g
  | .lg true c d => c.tru g && d.tru g
  | .lg false c d => c.tru g || d.tru g
  | .var _ => false
  | .lit _ _ => false
  | .cast _ _ => false
  | .neg _ => false
  | .bin _ _ _ => false
  | .sh _ _ _ => false
  | .ite _ _ _ => false
end
def exV (g : Str → Int) (nd : Nd) : V := if nd.isE = true then .int (nd.num g) else .bl (nd.tru g)
theorem exV_E {g : Str → Int} {nd : Nd} (h : nd.isE = true) : exV g nd = .int (nd.num g) := if_pos h
theorem exV_C {g : Str → Int} {nd : Nd} (h : nd.isE = false) : exV g nd = .bl (nd.tru g) := if_neg (by rw [h]; decide)
theorem pw_le {a b : Nat} (h : a ≤ b) : 2 ^ a ≤ 2 ^ b := Nat.pow_le_pow_right (by decide) h
theorem num_bound {g : Str → Int} (hg : ∀ x, (g x).natAbs < 2 ^ 140) : ∀ {nd : Nd}, nd.wf → (nd.num g).natAbs < 2 ^ (1140 * nd.size)
  | .var x, _ => by
    have h1 := hg x
    have h2 : 2 ^ 140 ≤ 2 ^ (1140 * (Nd.var x).size) := pw_le (by simp only [Nd.size]; omega)
    simp only [Nd.num]
    omega
  | .lit n s, w => by
    obtain ⟨w1, w2, _⟩ := w
    have h2 : 2 ^ 136 ≤ 2 ^ (1140 * (Nd.lit n s).size) := pw_le (by simp only [Nd.size]; omega)
    have h3 : n.natAbs < 2 ^ 136 := by omega
    simp only [Nd.num]
    omega
  | .cast k e, w => by
    have ih := num_bound hg w.2
    have h2 : 2 ^ (1140 * e.size) ≤ 2 ^ (1140 * (Nd.cast k e).size) := pw_le (by simp only [Nd.size]; omega)
    simp only [Nd.num]
    omega
  | .neg e, w => by
    have ih := num_bound hg w.2
    have h2 : 2 ^ (1140 * e.size) ≤ 2 ^ (1140 * (Nd.neg e).size) := pw_le (by simp only [Nd.size]; omega)
    simp only [Nd.num, Int.natAbs_neg]
    omega
  | .bin o e f, w => by
    have ih := num_bound hg w.2.2.1
    have jh := num_bound hg w.2.2.2
    have h4 : 2 ^ (1140 * e.size) ≤ 2 ^ (1140 * (e.size + f.size)) := pw_le (by omega)
    have h5 : 2 ^ (1140 * f.size) ≤ 2 ^ (1140 * (e.size + f.size)) := pw_le (by omega)
    have h6 : 2 ^ (1140 * (e.size + f.size)) * 2 ≤ 2 ^ (1140 * (Nd.bin o e f).size) := by
      rw [← Nat.pow_succ]
      exact pw_le (by simp only [Nd.size]; omega)
    cases o with
    | add => simp only [Nd.num, Bo.op]; omega
    | sub => simp only [Nd.num, Bo.op]; omega
    | mul =>
      simp only [Nd.num, Bo.op, Int.natAbs_mul]
      have h7 : (e.num g).natAbs * (f.num g).natAbs < 2 ^ (1140 * e.size) * 2 ^ (1140 * f.size) := Nat.mul_lt_mul'' ih jh
      rw [← Nat.pow_add] at h7
      have h8 : 2 ^ (1140 * e.size + 1140 * f.size) ≤ 2 ^ (1140 * (Nd.bin .mul e f).size) := pw_le (by simp only [Nd.size]; omega)
      omega
  | .sh true e k, w => by
    obtain ⟨_, we, w1, w2⟩ := w
    have ih := num_bound hg we
    have h7 : (e.num g).natAbs * 2 ^ k.toNat < 2 ^ (1140 * e.size) * 2 ^ k.toNat := Nat.mul_lt_mul_of_pos_right ih (Nat.pow_pos (by decide))
    rw [← Nat.pow_add] at h7
    have h8 : 2 ^ (1140 * e.size + k.toNat) ≤ 2 ^ (1140 * (Nd.sh true e k).size) := pw_le (by simp only [Nd.size]; omega)
    have h9 : ((2 : Int) ^ k.toNat).natAbs = 2 ^ k.toNat := by rw [Int.natAbs_pow]; rfl
    simp only [Nd.num, Int.natAbs_mul, h9]
    omega
  | .sh false e k, w => by
    have ih := num_bound hg w.2.1
    have h2 : 2 ^ (1140 * e.size) ≤ 2 ^ (1140 * (Nd.sh false e k).size) := pw_le (by simp only [Nd.size]; omega)
    have h3 := Int.natAbs_ediv_le_natAbs (e.num g) (2 ^ k.toNat)
    simp only [Nd.num]
    omega
  | .ite c e f, w => by
    have ih := num_bound hg w.2.2.2.2.1
    have jh := num_bound hg w.2.2.2.2.2
    have h4 : 2 ^ (1140 * e.size) ≤ 2 ^ (1140 * (Nd.ite c e f).size) := pw_le (by simp only [Nd.size]; omega)
    have h5 : 2 ^ (1140 * f.size) ≤ 2 ^ (1140 * (Nd.ite c e f).size) := pw_le (by simp only [Nd.size]; omega)
    simp only [Nd.num]
    split <;> omega
  | .cmp b e f, w => by simp only [Nd.num]; exact Nat.pow_pos (by decide)
  | .nt c, w => by simp only [Nd.num]; exact Nat.pow_pos (by decide)
  | .lg b c d, w => by simp only [Nd.num]; exact Nat.pow_pos (by decide)
/-- a node of two parts -/
def Nd.pair : Nd → Option (Nd × Nd)
  | .bin _ e f => some (e, f) | .cmp _ e f => some (e, f) | .lg _ c d => some (c, d) | _ => none
def preEP : List V → Hp → V → Prop := fun vs H v => ∃ g nd e f, vs = [.str nd.word, exV g e, exV g f] ∧ nd.pair = some (e, f) ∧ nd.wf ∧ nd.size ≤ 30 ∧ (∀ x, (g x).natAbs < 2 ^ 140) ∧ v = exV g nd
def preEx (K : PySem.W.Frag) : List V → Hp → V → Prop := fun vs H v => ∃ q ol g nd, vs = [.ref q, .ref ol] ∧ TreeAt H q nd ∧ nd.wf ∧ nd.size ≤ 30 ∧ nd.word ≠ "var" ∧ (∀ x, (g x).natAbs < 2 ^ 140) ∧ H ol = some (.lst (nd.parts.map (exV g))) ∧ v = exV g nd
/-- the dict has each variable's value, and its range holds it -/
def ValsOk (kvs : List (Key × V)) (rows : List Row) (g : Str → Int) : Prop := ∀ w ∈ rows, valV kvs (.inr w.name) = some (.int (g w.name)) ∧ w.low ≤ g w.name ∧ g w.name ≤ w.high
def spCVal : Sp := fun vs H Q _ => ∃ l dv rows kvs g, vs = [.ref l, .ref dv] ∧ VarsAt H l rows ∧ H dv = some (.dK kvs) ∧ ValsOk kvs rows g ∧ ∀ H', Ex H H' → Q .non H'
end Cf
namespace Cf
open PySem PySem.Spec PyProof.Rows L2 Evl
theorem ev_dnotinK {σ : L2.St} {H : Hp} {ta td : TE} {d : Addr} {kvs : List (Key × V)} {x : Str} {v : V} (hx : Ev ta σ H (.str x)) (hd : Ev td σ H (.ref d)) (h : H d = some (.dK kvs)) (hv : valV kvs (.inr x) = some v) : Ev (tDNotIn ta td) σ H (.bl false) := fun H1 e Q q =>
  hx H1 e _ fun H2 e2 => hd H2 (e.trans e2) _ fun H3 e3 => ⟨d, some v, rfl, by
    have g := DGet.k (k := .inr x) (e3 _ _ (e2 _ _ (e _ _ h)))
    rw [hv] at g
    exact g, q H3 (e2.trans e3)⟩
theorem bits_le {i : Int} {n : Nat} (h : i.natAbs < 2 ^ n) : Builtin.Int.intBits i ≤ n := by
  unfold Builtin.Int.intBits
  split
  · omega
  · rename_i hz
    have h0 : i.natAbs ≠ 0 := fun z => hz (by rw [Int.natAbs_eq_zero.mp z]; rfl)
    have := (Nat.log2_lt h0).mpr h
    omega
theorem shl_ok {i k : Int} {n : Nat} (h : i.natAbs < 2 ^ n) (hn : n ≤ 100000) (k0 : 0 ≤ k) (k1 : k < 1000) : CShl i k := by
  have := bits_le h
  exact ⟨k0, by omega⟩
theorem spEP {H : Hp} {g : Str → Int} {nd e f : Nd} (hp : nd.pair = some (e, f)) (hw : nd.wf) (hs : nd.size ≤ 30) (hg : ∀ x, (g x).natAbs < 2 ^ 140) : SpV (PV preEP) [.str nd.word, exV g e, exV g f] H (exV g nd) :=
  PV.sp fun H1 _ => ⟨g, nd, e, f, rfl, hp, hw, hs, hg, rfl⟩
theorem spEx {K : PySem.W.Frag} {H : Hp} {q ol : Addr} {g : Str → Int} {nd : Nd} (hT : TreeAt H q nd) (hw : nd.wf) (hs : nd.size ≤ 30) (hn : nd.word ≠ "var") (hg : ∀ x, (g x).natAbs < 2 ^ 140) (hl : H ol = some (.lst (nd.parts.map (exV g)))) : SpV (PV (preEx K)) [.ref q, .ref ol] H (exV g nd) :=
  PV.sp fun H1 e => ⟨q, ol, g, nd, rfl, hT.ex e, hw, hs, hn, hg, e _ _ hl, rfl⟩
end Cf
namespace Cf
open PySem PySem.Spec PyProof.Rows L2 Evl
theorem word_neg : ∀ {nd : Nd}, nd.word = "neg" → ∃ e, nd = .neg e
  | .neg e, _ => ⟨e, rfl⟩
  | .cast _ _, h => absurd h (by show ("cast" : Str) ≠ "neg"; decide)
  | .var _, h => absurd h (by show ("var" : Str) ≠ "neg"; decide)
  | .lit _ _, h => absurd h (by show ("lit" : Str) ≠ "neg"; decide)
  | .bin .add _ _, h => absurd h (by show ("add" : Str) ≠ "neg"; decide)
  | .bin .sub _ _, h => absurd h (by show ("sub" : Str) ≠ "neg"; decide)
  | .bin .mul _ _, h => absurd h (by show ("mul" : Str) ≠ "neg"; decide)
  | .sh true _ _, h => absurd h (by show ("shl" : Str) ≠ "neg"; decide)
  | .sh false _ _, h => absurd h (by show ("shr" : Str) ≠ "neg"; decide)
  | .cmp true _ _, h => absurd h (by show ("less" : Str) ≠ "neg"; decide)
  | .cmp false _ _, h => absurd h (by show ("most" : Str) ≠ "neg"; decide)
  | .lg true _ _, h => absurd h (by show ("and" : Str) ≠ "neg"; decide)
  | .lg false _ _, h => absurd h (by show ("or" : Str) ≠ "neg"; decide)
  | .ite _ _ _, h => absurd h (by show ("if" : Str) ≠ "neg"; decide)
  | .nt _, h => absurd h (by show ("not" : Str) ≠ "neg"; decide)
end Cf
namespace Cf
open PySem PySem.Spec PyProof.Rows L2 Evl
theorem bin_ne (o : Bo) : o.s ≠ "shl" ∧ o.s ≠ "shr" ∧ o.s ≠ "not" ∧ o.s ≠ "if" := by cases o <;> decide
theorem cmp_ne (o : Bool) : cmpS o ≠ "shl" ∧ cmpS o ≠ "shr" ∧ cmpS o ≠ "not" ∧ cmpS o ≠ "if" := by cases o <;> decide
theorem lg_ne (o : Bool) : lgS o ≠ "shl" ∧ lgS o ≠ "shr" ∧ lgS o ≠ "not" ∧ lgS o ≠ "if" := by cases o <;> decide
end Cf
namespace Cf
open PySem PySem.Spec PyProof.Rows L2 Evl
def preMath (K : PySem.W.Frag) : List V → Hp → V → Prop := fun vs H v => ∃ l p dv rows nd kvs g, vs = [.ref l, .ref p, .ref dv] ∧ VarsAt H l rows ∧ rows.length ≤ 100 ∧ (∀ w ∈ rows, nameOk w.name = true) ∧ (rows.map Row.name).Nodup ∧ (∀ w ∈ rows, w.low ≤ w.high) ∧ TreeAt H p nd ∧ nd.wf ∧ nd.size ≤ 30 ∧ (∀ y ∈ nd.vars, y ∈ rows.map Row.name) ∧ nd.vars.Nodup ∧
  H dv = some (.dK kvs) ∧ ValsOk kvs rows g ∧ (∀ x, (g x).natAbs < 2 ^ 140) ∧ v = exV g nd
end Cf
namespace Cf
open PySem PySem.Spec PyProof.Rows L2 Evl
/-! ## arithmetic of bools -/
def rBB (g : Int → Int → Int) : R2 := fun x y H Q => ∃ a b : Bool, x = .bl a ∧ y = .bl b ∧ Q (.int (g (b2i a) (b2i b))) H
theorem op_add_bb {X : Cx} : OpR X (binaryOp .Add) (rBB fun i j => i + j) := by
  intro pins s σ H x y v u Q I rx ry h
  obtain ⟨a, b, rfl, rfl, q⟩ := h
  cases rx
  cases ry
  exact add_bool ⟨.int (b2i a + b2i b), H, I.tok _, ⟨_, rfl⟩, q⟩
theorem op_sub_bb {X : Cx} : OpR X (binaryOp .Sub) (rBB fun i j => i - j) := by
  intro pins s σ H x y v u Q I rx ry h
  obtain ⟨a, b, rfl, rfl, q⟩ := h
  cases rx
  cases ry
  exact sub_bool ⟨.int (b2i a - b2i b), H, I.tok _, ⟨_, rfl⟩, q⟩
theorem op_mul_bb {X : Cx} : OpR X (binaryOp .Mult) (rBB fun i j => i * j) := by
  intro pins s σ H x y v u Q I rx ry h
  obtain ⟨a, b, rfl, rfl, q⟩ := h
  cases rx
  cases ry
  exact mul_bool ⟨.int (b2i a * b2i b), H, I.tok _, ⟨_, rfl⟩, q⟩
theorem op_lt_bb {X : Cx} : OpR X (compareOp .Lt) (fun x y H Q => ∃ a b : Bool, x = .bl a ∧ y = .bl b ∧ Q (.bl (decide (b2i a < b2i b))) H) := by
  intro pins s σ H x y v u Q I rx ry h
  obtain ⟨a, b, rfl, rfl, q⟩ := h
  cases rx
  cases ry
  exact lt_bool ⟨.bl (decide (b2i a < b2i b)), H, I, rfl, q⟩
theorem op_le_bb {X : Cx} : OpR X (compareOp .LtE) (fun x y H Q => ∃ a b : Bool, x = .bl a ∧ y = .bl b ∧ Q (.bl (decide (b2i a ≤ b2i b))) H) := by
  intro pins s σ H x y v u Q I rx ry h
  obtain ⟨a, b, rfl, rfl, q⟩ := h
  cases rx
  cases ry
  exact le_bool ⟨.bl (decide (b2i a ≤ b2i b)), H, I, rfl, q⟩
/-- either of two rules, as the readings need -/
theorem op_either {X : Cx} {f : Value → Value → Sem Value} {r t : R2} (a : OpR X f r) (b : OpR X f t) : OpR X f (fun x y H Q => r x y H Q ∨ t x y H Q) := by
  intro pins s σ H x y v u Q I rx ry h
  rcases h with h | h
  · exact a pins s σ H x y v u Q I rx ry h
  · exact b pins s σ H x y v u Q I rx ry h
end Cf
namespace Cf
open PySem PySem.Spec PyProof.Rows L2 Evl
/-- k14's own reading of a node -/
def preLE (K : PySem.W.Frag) (d : Nat) : List V → Hp → V → Prop := fun vs H v => ∃ q gv kvs g nd, vs = [.ref q, .ref gv] ∧ TreeAt H q nd ∧ nd.wf ∧ nd.size ≤ d ∧ nd.size ≤ 30 ∧ H gv = some (.dK kvs) ∧ (∀ x ∈ nd.vars, valV kvs (.inr x) = some (.int (g x))) ∧ (∀ x, (g x).natAbs < 2 ^ 140) ∧ v = exV g nd
theorem spLE {K : PySem.W.Frag} {H : Hp} {q gv : Addr} {kvs : List (Key × V)} {g : Str → Int} {nd : Nd} {d : Nat} (hT : TreeAt H q nd) (hw : nd.wf) (hd : nd.size ≤ d) (hs : nd.size ≤ 30) (hk : H gv = some (.dK kvs)) (hv : ∀ x ∈ nd.vars, valV kvs (.inr x) = some (.int (g x))) (hg : ∀ x, (g x).natAbs < 2 ^ 140) : SpV (PV (preLE K d)) [.ref q, .ref gv] H (exV g nd) :=
  PV.sp fun H1 e => ⟨q, gv, kvs, g, nd, rfl, hT.ex e, hw, hd, hs, e _ _ hk, hv, hg, rfl⟩
end Cf
namespace Cf
open PySem PySem.Spec PyProof.Rows L2 Evl
theorem pow2_step (i : Nat) : (2 : Int) ^ i * 2 = 2 ^ (i + 1) := (Int.pow_succ 2 i).symm
theorem pow2_abs (i : Nat) : ((2 : Int) ^ i).natAbs = 2 ^ i := by rw [Int.natAbs_pow]; rfl
theorem rv_eitherI {C : Int → Int → Prop} {h : Int → Int → V} {t : R2} {i j : Int} {H : Hp} (c : C i j) : RV (fun x y H Q => rI C h x y H Q ∨ t x y H Q) (.int i) (.int j) H (h i j) := fun H1 _ Q q => .inl ⟨i, j, rfl, rfl, c, q H1 (Ex.refl H1)⟩
theorem rv_eitherI0 {h : Int → Int → V} {t : R2} {i j : Int} {H : Hp} : RV (fun x y H Q => rI0 h x y H Q ∨ t x y H Q) (.int i) (.int j) H (h i j) := fun H1 _ Q q => .inl ⟨i, j, rfl, rfl, q H1 (Ex.refl H1)⟩
theorem rv_eitherB {g : Int → Int → Int} {r : R2} {a b : Bool} {H : Hp} : RV (fun x y H Q => r x y H Q ∨ rBB g x y H Q) (.bl a) (.bl b) H (.int (g (b2i a) (b2i b))) := fun H1 _ Q q => .inr ⟨a, b, rfl, rfl, q H1 (Ex.refl H1)⟩
theorem rv_eitherL {r : R2} {a b : Bool} {H : Hp} : RV (fun x y H Q => r x y H Q ∨ ∃ a b : Bool, x = .bl a ∧ y = .bl b ∧ Q (.bl (decide (b2i a < b2i b))) H) (.bl a) (.bl b) H (.bl (decide (b2i a < b2i b))) := fun H1 _ Q q => .inr ⟨a, b, rfl, rfl, q H1 (Ex.refl H1)⟩
theorem rv_eitherM {r : R2} {a b : Bool} {H : Hp} : RV (fun x y H Q => r x y H Q ∨ ∃ a b : Bool, x = .bl a ∧ y = .bl b ∧ Q (.bl (decide (b2i a ≤ b2i b))) H) (.bl a) (.bl b) H (.bl (decide (b2i a ≤ b2i b))) := fun H1 _ Q q => .inr ⟨a, b, rfl, rfl, q H1 (Ex.refl H1)⟩
end Cf
namespace Cf
open PySem PySem.Spec PyProof.Rows L2 Evl
theorem word_sh : ∀ {nd : Nd}, inV (.str nd.word) [.str "shl", .str "shr"] = true → ∃ b e k, nd = .sh b e k
  | .sh b e k, _ => ⟨b, e, k, rfl⟩
  | .var _, h => absurd h (by show ¬ (inV (.str "var") _ = true); decide)
  | .lit _ _, h => absurd h (by show ¬ (inV (.str "lit") _ = true); decide)
  | .cast _ _, h => absurd h (by show ¬ (inV (.str "cast") _ = true); decide)
  | .neg _, h => absurd h (by show ¬ (inV (.str "neg") _ = true); decide)
  | .ite _ _ _, h => absurd h (by show ¬ (inV (.str "if") _ = true); decide)
  | .nt _, h => absurd h (by show ¬ (inV (.str "not") _ = true); decide)
  | .bin .add _ _, h => absurd h (by show ¬ (inV (.str "add") _ = true); decide)
  | .bin .sub _ _, h => absurd h (by show ¬ (inV (.str "sub") _ = true); decide)
  | .bin .mul _ _, h => absurd h (by show ¬ (inV (.str "mul") _ = true); decide)
  | .cmp true _ _, h => absurd h (by show ¬ (inV (.str "less") _ = true); decide)
  | .cmp false _ _, h => absurd h (by show ¬ (inV (.str "most") _ = true); decide)
  | .lg true _ _, h => absurd h (by show ¬ (inV (.str "and") _ = true); decide)
  | .lg false _ _, h => absurd h (by show ¬ (inV (.str "or") _ = true); decide)
theorem word_ite : ∀ {nd : Nd}, nd.word = "if" → ∃ c e f, nd = .ite c e f
  | .ite c e f, _ => ⟨c, e, f, rfl⟩
  | .cast _ _, h => absurd h (by show ("cast" : Str) ≠ "if"; decide)
  | .var _, h => absurd h (by show ("var" : Str) ≠ "if"; decide)
  | .lit _ _, h => absurd h (by show ("lit" : Str) ≠ "if"; decide)
  | .bin .add _ _, h => absurd h (by show ("add" : Str) ≠ "if"; decide)
  | .bin .sub _ _, h => absurd h (by show ("sub" : Str) ≠ "if"; decide)
  | .bin .mul _ _, h => absurd h (by show ("mul" : Str) ≠ "if"; decide)
  | .sh true _ _, h => absurd h (by show ("shl" : Str) ≠ "if"; decide)
  | .sh false _ _, h => absurd h (by show ("shr" : Str) ≠ "if"; decide)
  | .cmp true _ _, h => absurd h (by show ("less" : Str) ≠ "if"; decide)
  | .cmp false _ _, h => absurd h (by show ("most" : Str) ≠ "if"; decide)
  | .lg true _ _, h => absurd h (by show ("and" : Str) ≠ "if"; decide)
  | .lg false _ _, h => absurd h (by show ("or" : Str) ≠ "if"; decide)
  | .neg _, h => absurd h (by show ("neg" : Str) ≠ "if"; decide)
  | .nt _, h => absurd h (by show ("not" : Str) ≠ "if"; decide)
theorem pair_at {H : Hp} : ∀ {nd : Nd} {p : Addr}, TreeAt H p nd → nd.wf → nd.word ≠ "var" → nd.word ≠ "lit" → nd.word ≠ "cast" → nd.word ≠ "if" → inV (.str nd.word) [.str "neg", .str "not"] = false → inV (.str nd.word) [.str "shl", .str "shr"] = false →
    ∃ xs q r e f, H p = some (.tup xs) ∧ xs[1]? = some (.ref q) ∧ xs[2]? = some (.ref r) ∧ TreeAt H q e ∧ TreeAt H r f ∧ e ∈ nd.parts ∧ f ∈ nd.parts ∧ nd.pair = some (e, f)
  | .bin _ e f, _, ⟨q, r, h, t, u⟩, _, _, _, _, _, _, _ => ⟨_, q, r, e, f, h, rfl, rfl, t, u, List.mem_cons_self .., List.mem_cons_of_mem _ (List.mem_cons_self ..), rfl⟩
  | .cmp _ e f, _, ⟨q, r, h, t, u⟩, _, _, _, _, _, _, _ => ⟨_, q, r, e, f, h, rfl, rfl, t, u, List.mem_cons_self .., List.mem_cons_of_mem _ (List.mem_cons_self ..), rfl⟩
  | .lg _ e f, _, ⟨q, r, h, t, u⟩, _, _, _, _, _, _, _ => ⟨_, q, r, e, f, h, rfl, rfl, t, u, List.mem_cons_self .., List.mem_cons_of_mem _ (List.mem_cons_self ..), rfl⟩
  | .var _, _, _, _, h, _, _, _, _, _ => absurd rfl h
  | .lit _ _, _, _, _, _, h, _, _, _, _ => absurd rfl h
  | .cast _ _, _, _, _, _, _, h, _, _, _ => absurd rfl h
  | .ite _ _ _, _, _, _, _, _, _, h, _, _ => absurd rfl h
  | .neg _, _, _, _, _, _, _, _, h, _ => absurd h (by show ¬ (inV (.str "neg") _ = false); decide)
  | .nt _, _, _, _, _, _, _, _, h, _ => absurd h (by show ¬ (inV (.str "not") _ = false); decide)
  | .sh true _ _, _, _, _, _, _, _, _, _, h => absurd h (by show ¬ (inV (.str "shl") _ = false); decide)
  | .sh false _ _, _, _, _, _, _, _, _, _, h => absurd h (by show ¬ (inV (.str "shr") _ = false); decide)
end Cf
namespace Cf
open PySem PySem.Spec PyProof.Rows L2 Evl
def sumL (a b c d e : V) : List (Key × V) := [(.inr "add", a), (.inr "sub", b), (.inr "mul", c), (.inr "less", d), (.inr "most", e)]
theorem pair_vals {g : Str → Int} : ∀ {nd e f : Nd}, nd.pair = some (e, f) → nd.wf →
    (∃ a b : Int, exV g e = .int a ∧ exV g f = .int b ∧ e.num g = a ∧ f.num g = b ∧ e.wf ∧ f.wf ∧ valV (sumL (.int (a + b)) (.int (a - b)) (.int (a * b)) (.bl (decide (a < b))) (.bl (decide (a ≤ b)))) (.inr nd.word) = some (exV g nd)) ∨
    (∃ a b : Bool, exV g e = .bl a ∧ exV g f = .bl b ∧ ((nd.word = "and" ∧ exV g nd = .bl (a && b)) ∨ (nd.word = "or" ∧ exV g nd = .bl (a || b))))
  | .bin .add e f, _, _, h, w => by cases (Option.some.inj h); exact .inl ⟨_, _, exV_E w.1, exV_E w.2.1, rfl, rfl, w.2.2.1, w.2.2.2, rfl⟩
  | .bin .sub e f, _, _, h, w => by cases (Option.some.inj h); exact .inl ⟨_, _, exV_E w.1, exV_E w.2.1, rfl, rfl, w.2.2.1, w.2.2.2, rfl⟩
  | .bin .mul e f, _, _, h, w => by cases (Option.some.inj h); exact .inl ⟨_, _, exV_E w.1, exV_E w.2.1, rfl, rfl, w.2.2.1, w.2.2.2, rfl⟩
  | .cmp true e f, _, _, h, w => by cases (Option.some.inj h); exact .inl ⟨_, _, exV_E w.1, exV_E w.2.1, rfl, rfl, w.2.2.1, w.2.2.2, rfl⟩
  | .cmp false e f, _, _, h, w => by cases (Option.some.inj h); exact .inl ⟨_, _, exV_E w.1, exV_E w.2.1, rfl, rfl, w.2.2.1, w.2.2.2, rfl⟩
  | .lg true e f, _, _, h, w => by cases (Option.some.inj h); exact .inr ⟨_, _, exV_C w.1, exV_C w.2.1, .inl ⟨rfl, rfl⟩⟩
  | .lg false e f, _, _, h, w => by cases (Option.some.inj h); exact .inr ⟨_, _, exV_C w.1, exV_C w.2.1, .inr ⟨rfl, rfl⟩⟩
  | .var _, _, _, h, _ => nomatch h
  | .lit _ _, _, _, h, _ => nomatch h
  | .cast _ _, _, _, h, _ => nomatch h
  | .neg _, _, _, h, _ => nomatch h
  | .sh _ _ _, _, _, h, _ => nomatch h
  | .ite _ _ _, _, _, h, _ => nomatch h
  | .nt _, _, _, h, _ => nomatch h
end Cf
namespace Cf
open PySem PySem.Spec PyProof.Rows L2 Evl
theorem ev_dinV {σ : L2.St} {H : Hp} {ta td : TE} {d : Addr} {kvs : List (Key × V)} {x : Str} {b : Bool} (hx : Ev ta σ H (.str x)) (hd : Ev td σ H (.ref d)) (h : H d = some (.dK kvs)) (hv : (valV kvs (.inr x)).isSome = b) : Ev (tDIn ta td) σ H (.bl b) := fun H1 e Q q =>
  hx H1 e _ fun H2 e2 => hd H2 (e.trans e2) _ fun H3 e3 => ⟨d, _, rfl, DGet.k (k := .inr x) (e3 _ _ (e2 _ _ (e _ _ h))), by
    rw [hv]
    exact q H3 (e2.trans e3)⟩
end Cf

set_option exponentiation.threshold 20000
namespace Cf
open PySem PySem.Spec PyProof.Rows L2 Evl
/-! ## expressions drawn out of a pool, with leaves that stand in a list -/
abbrev Lf := Addr × Nd
def lfV (L : List Lf) : List V := L.map fun x => V.ref x.1
def stL (l : Addr) (c : Nat) : List (Key × V) := [(.inr "leaves", .ref l), (.inr "more", .int (c : Nat))]
def LeafOk (x : Nd) : Prop := (∃ y, x = .var y) ∨ (∃ n s, x = .lit n s ∧ x.wf)
theorem LeafOk.all {x : Nd} (h : LeafOk x) : x.leaves = 1 ∧ x.size = 1 ∧ x.isE = true ∧ x.wf := by
  rcases h with ⟨y, rfl⟩ | ⟨n, s, rfl, w⟩
  · exact ⟨rfl, rfl, rfl, trivial⟩
  · exact ⟨rfl, rfl, rfl, w⟩
structure PSt (H : Hp) (r st l : Addr) (n : Nat) (L : List Lf) (c : Nat) : Prop where
  g : Rng H r n
  hs : H st = some (.dK (stL l c))
  hl : H l = some (.lst (lfV L))
  sr : st ≠ r
  lr : l ≠ r
  sl : st ≠ l
  tr : ∀ x ∈ L, TreeAt H x.1 x.2 ∧ LeafOk x.2
theorem PSt.ex {H H' : Hp} {r st l : Addr} {n : Nat} {L : List Lf} {c : Nat} (p : PSt H r st l n L c) (e : Ex H H') : PSt H' r st l n L c := ⟨p.g.ex e, e _ _ p.hs, e _ _ p.hl, p.sr, p.lr, p.sl, fun x hx => ⟨(p.tr x hx).1.ex e, (p.tr x hx).2⟩⟩
theorem PSt.bu {H H' : Hp} {r st l : Addr} {n k : Nat} {L : List Lf} {c : Nat} (p : PSt H r st l n L c) (e : Bu r H H') (g : Rng H' r k) : PSt H' r st l k L c := ⟨g, e _ _ p.sr p.hs, e _ _ p.lr p.hl, p.sr, p.lr, p.sl, fun x hx => ⟨(p.tr x hx).1.tk (TupK.bu e p.g), (p.tr x hx).2⟩⟩
theorem PSt.le {H : Hp} {r st l : Addr} {n k : Nat} {L : List Lf} {c : Nat} (p : PSt H r st l n L c) (h : n ≤ k) : PSt H r st l k L c := ⟨p.g.le h, p.hs, p.hl, p.sr, p.lr, p.sl, p.tr⟩
theorem PSt.ne {H : Hp} {r st l q : Addr} {n : Nat} {L : List Lf} {c : Nat} (o : PSt H r st l n L c) {ys : List V} (h : H q = some (.tup ys)) : q ≠ r ∧ q ≠ st ∧ q ≠ l :=
  ⟨o.g.ne_tup h, ne_of h o.hs (fun z => nomatch z), ne_of h o.hl (fun z => nomatch z)⟩
theorem PSt.tk {H H' : Hp} {r st l : Addr} {n : Nat} {L : List Lf} {c : Nat} (o : PSt H r st l n L c) (e : Bs r st l H H') : TupK H H' := fun q ys h => by
  obtain ⟨n1, n2, n3⟩ := o.ne h
  exact e q _ n1 n2 n3 h
theorem PSt.fr {H : Hp} {r st l q : Addr} {n : Nat} {L : List Lf} {c : Nat} (o : PSt H r st l n L c) (h : H q = none) : q ≠ r ∧ q ≠ st ∧ q ≠ l := by
  obtain ⟨d, s2, c, z, _⟩ := o.g
  exact ⟨(fun y => by rw [y, z] at h; exact nomatch h), (fun y => by rw [y, o.hs] at h; exact nomatch h), (fun y => by rw [y, o.hl] at h; exact nomatch h)⟩
/-- the state's number falls -/
theorem PSt.put {H : Hp} {r st l : Addr} {n : Nat} {L : List Lf} {c c' : Nat} (p : PSt H r st l n L c) : PSt (upd H st (.dK (stL l c'))) r st l n L c' ∧ Bs r st l H (upd H st (.dK (stL l c'))) := by
  have hb : Bs r st l H (upd H st (.dK (stL l c'))) := fun q o n1 n2 n3 h => by rw [upd_ne n2]; exact h
  refine ⟨⟨?_, upd_same, by rw [upd_ne (Ne.symm p.sl)]; exact p.hl, p.sr, p.lr, p.sl, fun x hx => ⟨(p.tr x hx).1.tk (p.tk hb), (p.tr x hx).2⟩⟩, hb⟩
  obtain ⟨d, s, k, a, b⟩ := p.g
  exact ⟨d, s, k, by rw [upd_ne (Ne.symm p.sr)]; exact a, b⟩
def rsL (L : List Lf) (a : Nat) : List Lf := L.take (L.length - a)
def lvL (L : List Lf) (a : Nat) : List Lf := L.drop (L.length - a)
def lvV (L : List Lf) : List Str := L.flatMap fun x => x.2.vars
theorem rs_len {L : List Lf} {a : Nat} (h : a ≤ L.length) : (rsL L a).length = L.length - a := by
  unfold rsL
  rw [List.length_take]
  omega
theorem rs_two {L : List Lf} {a b : Nat} (h : a + b ≤ L.length) : rsL (rsL L a) b = rsL L (a + b) := by
  have e := rs_len (L := L) (a := a) (by omega)
  show (rsL L a).take ((rsL L a).length - b) = _
  rw [e]
  unfold rsL
  rw [List.take_take]
  congr 1
  omega
theorem lv_two {L : List Lf} {a b : Nat} (h : a + b ≤ L.length) : lvL L (a + b) = lvL (rsL L a) b ++ lvL L a := by
  have e := rs_len (L := L) (a := a) (by omega)
  show L.drop (L.length - (a + b)) = (rsL L a).drop ((rsL L a).length - b) ++ L.drop (L.length - a)
  rw [e]
  unfold rsL
  have h1 : L.length - (a + b) = L.length - a - b := by omega
  rw [h1]
  have h2 : L.drop (L.length - a - b) = (L.take (L.length - a) ++ L.drop (L.length - a)).drop (L.length - a - b) := by rw [List.take_append_drop]
  rw [h2, List.drop_append_of_le_length (by rw [List.length_take]; omega)]
theorem lvV_app (A B : List Lf) : lvV (A ++ B) = lvV A ++ lvV B := List.flatMap_append
theorem lv_perm {L : List Lf} {a b : Nat} {u v : List Str} (h : a + b ≤ L.length) (hu : u.Perm (lvV (lvL L a))) (hv : v.Perm (lvV (lvL (rsL L a) b))) : (u ++ v).Perm (lvV (lvL L (a + b))) := by
  rw [lv_two h, lvV_app]
  exact (hu.append hv).trans List.perm_append_comm
theorem rs_one {L : List Lf} {x : Lf} (hx : L[L.length - 1]? = some x) : L.dropLast = rsL L 1 ∧ lvL L 1 = [x] := by
  refine ⟨List.dropLast_eq_take, ?_⟩
  have hl : L.length - 1 < L.length := (List.getElem?_eq_some_iff.mp hx).1
  unfold lvL
  rw [List.drop_eq_getElem_cons hl]
  have e : L[L.length - 1] = x := (List.getElem?_eq_some_iff.mp hx).2
  rw [e, List.drop_eq_nil_of_le (by omega)]
/-- bits that its value may have, from 136 at a leaf on -/
def Nd.sb : Nd → Nat
  | .var _ => 136 | .lit _ _ => 136 | .cast _ e => e.sb | .neg e => e.sb | .bin _ e f => e.sb + f.sb + 1 | .sh _ e k => e.sb + k.toNat | .ite c e f => c.sb + e.sb + f.sb | .cmp _ e f => e.sb + f.sb | .nt c => c.sb | .lg _ c d => c.sb + d.sb
/-- what a drawn expression is, and what it takes -/
structure Pk (nd : Nd) (many : Nat) (L : List Lf) (c c' : Nat) : Prop where
  wf : nd.wf
  lv : nd.leaves = many
  sz : nd.size + c' + 1 ≤ 2 * many + c
  vs : nd.vars.Perm (lvV (lvL L many))
  cl : c' ≤ c
  sb : nd.sb ≤ 136 * nd.size
theorem LeafOk.sb {x : Nd} (h : LeafOk x) : x.sb ≤ 136 * x.size := by
  rcases h with ⟨y, rfl⟩ | ⟨n, s, rfl, w⟩
  · exact Nat.le_refl _
  · exact Nat.le_refl _
def spPT (d : Nat) : Sp := fun vs H Q _ => ∃ r st l many n L c truth, vs = [.ref r, .ref st, .int (many : Nat), .bl truth] ∧ 1 ≤ many ∧ (truth = true → 2 ≤ many) ∧ many ≤ L.length ∧ L.length ≤ 100 ∧ c ≤ 20 ∧ many + c ≤ d ∧ n + 10 * (2 * many + c) < 2 ^ 50 ∧ PSt H r st l n L c ∧
  ∀ p nd c' H', Bs r st l H H' → PSt H' r st l (n + 10 * (2 * many + c) - 10 * (c' + 1)) (rsL L many) c' → TreeAt H' p nd → nd.isE = !truth → Pk nd many L c c' → Q (.ref p) H'
theorem no_pt {vs : List V} {H : Hp} {Q : VK} {E : XK} (h : spPT 0 vs H Q E) : False := by
  obtain ⟨r, st, l, many, n, L, c, truth, _, h1, _, _, _, _, h2, _⟩ := h
  omega
theorem pt_at {d : Nat} {σ : L2.St} {H : Hp} {ta : TA} {E : XK} {Q : VK} {r st l : Addr} {many n c : Nat} {L : List Lf} {truth : Bool} (h : EvA ta σ H [.ref r, .ref st, .int (many : Nat), .bl truth]) (h1 : 1 ≤ many) (h2 : truth = true → 2 ≤ many) (h3 : many ≤ L.length) (h4 : L.length ≤ 100) (h5 : c ≤ 20) (h6 : many + c ≤ d)
    (hn : n + 10 * (2 * many + c) < 2 ^ 50) (o : PSt H r st l n L c)
    (k : ∀ p nd c' H', Bs r st l H H' → PSt H' r st l (n + 10 * (2 * many + c) - 10 * (c' + 1)) (rsL L many) c' → TreeAt H' p nd → nd.isE = !truth → Pk nd many L c c' → Q (.ref p) H') : tCall (spPT d) [] E ta σ H Q :=
  h H (Ex.refl H) _ fun H1 e => ⟨r, st, l, many, n, L, c, truth, rfl, h1, h2, h3, h4, h5, h6, hn, o.ex e, fun p nd c' H' bs => k p nd c' H' ((Bs.of e).trans bs)⟩
theorem ev_more {σ : L2.St} {H : Hp} {r st l : Addr} {n c : Nat} {L : List Lf} {i : Nat} (hi : σ[i]? = some (some (.ref st))) (o : PSt H r st l n L c) : Ev (tDGet (tVar i) (tC (.str "more"))) σ H (.int (c : Nat)) := ev_dgetK (ev_var hi) o.hs rfl
theorem ev_leaves {σ : L2.St} {H : Hp} {r st l : Addr} {n c : Nat} {L : List Lf} {i : Nat} (hi : σ[i]? = some (some (.ref st))) (o : PSt H r st l n L c) : Ev (tDGet (tVar i) (tC (.str "leaves"))) σ H (.ref l) := ev_dgetK (ev_var hi) o.hs rfl
/-- one of the words of a written list -/
theorem word_draw {K : PySem.W.Frag} {σ : L2.St} {H : Hp} {r : Addr} {n j : Nat} {E : XK} {Q : VK} {tl : TA} {ws : List Str} {m : Int} (hl : EvA tl σ H (ws.map V.str)) (hz : ws.length ≤ 100) (hm : m = (ws.length : Nat)) (h0 : 1 ≤ ws.length) (g : Rng H r n) (hn : n < 2 ^ 60) (hj : σ[j]? = some (some (.ref r)))
    (k : ∀ H' s, Bu r H H' → Rng H' r (n + 1) → s ∈ ws → Q (.str s) H') : tOp (rIxL K) (tLst tl) (tCall spDraw [] E (tCons (tVar j) (tCons (tC (.int m)) tNil))) σ H Q := by
  refine op_raw ((el_lst hl (by rw [List.length_map]; omega)) H (Ex.refl H) _ fun t H1 n1 e1 h1 => ?_)
  have g1 := g.ex e1
  have htr : t ≠ r := g.ne_none n1
  refine draw_at (l := m) (n := n) (ea_cons (ev_var hj) (ea_cons ev_c ea_nil)) (by omega) (log_small (by omega)) hn g1 fun H2 v b2 g2 v0 v1 => ?_
  obtain ⟨i, rfl⟩ : ∃ i : Nat, v = (i : Int) := ⟨v.toNat, by omega⟩
  have hi : i < ws.length := by omega
  exact ⟨t, _, (i : Int), .str ws[i], rfl, rfl, sq_of (b2 _ _ htr h1), atI_nat (by rw [List.getElem?_map, List.getElem?_eq_getElem hi]; rfl), k H2 _ ((Bu.of e1).trans b2) g2 (List.getElem_mem hi)⟩
theorem Pk.two {a b many c c1 c2 : Nat} {L : List Lf} {nd1 nd2 N : Nd} (k1 : Pk nd1 a L c c1) (k2 : Pk nd2 b (rsL L a) c1 c2) (hab : a + b = many) (hl : many ≤ L.length) (hwf : N.wf) (hv : N.vars = nd1.vars ++ nd2.vars) (hlv : N.leaves = nd1.leaves + nd2.leaves) (hs : N.size = 1 + nd1.size + nd2.size) (hb : N.sb ≤ nd1.sb + nd2.sb + 136) : Pk N many L c c2 := by
  subst hab
  refine ⟨hwf, by rw [hlv, k1.lv, k2.lv], by have := k1.sz; have := k2.sz; omega, ?_, Nat.le_trans k2.cl k1.cl, by have := k1.sb; have := k2.sb; omega⟩
  rw [hv]
  exact lv_perm hl k1.vs k2.vs
theorem Pk.one {many c c' : Nat} {L : List Lf} {nd N : Nd} (k1 : Pk nd many L (c - 1) c') (hc : 1 ≤ c) (hwf : N.wf) (hv : N.vars = nd.vars) (hlv : N.leaves = nd.leaves) (hs : N.size = 1 + nd.size) (hb : N.sb ≤ nd.sb + 136) : Pk N many L c c' :=
  ⟨hwf, by rw [hlv, k1.lv], by have := k1.sz; omega, by rw [hv]; exact k1.vs, by have := k1.cl; omega, by have := k1.sb; omega⟩
theorem Pk.three {a b d many c c1 c2 c3 : Nat} {L : List Lf} {nd1 nd2 nd3 : Nd} (k1 : Pk nd1 a L c c1) (k2 : Pk nd2 b (rsL L a) c1 c2) (k3 : Pk nd3 d (rsL (rsL L a) b) c2 c3) (hab : a + b + d = many) (hl : many ≤ L.length) (hwf : (Nd.ite nd1 nd2 nd3).wf) : Pk (.ite nd1 nd2 nd3) many L c c3 := by
  subst hab
  refine ⟨hwf, by show nd1.leaves + nd2.leaves + nd3.leaves = _; rw [k1.lv, k2.lv, k3.lv], by have := k1.sz; have := k2.sz; have := k3.sz; show 1 + nd1.size + nd2.size + nd3.size + c3 + 1 ≤ _; omega, ?_, Nat.le_trans k3.cl (Nat.le_trans k2.cl k1.cl), by have := k1.sb; have := k2.sb; have := k3.sb; show nd1.sb + nd2.sb + nd3.sb ≤ 136 * (1 + nd1.size + nd2.size + nd3.size); omega⟩
  show (nd1.vars ++ (nd2.vars ++ nd3.vars)).Perm _
  rw [← List.append_assoc]
  refine lv_perm hl (lv_perm (by omega) k1.vs k2.vs) ?_
  have := k3.vs
  rw [rs_two (by omega)] at this
  exact this
theorem cond_draw {t : TT} {σ : L2.St} {H : Hp} {r : Addr} {n j : Nat} {lim : Int} {E : XK} {b : Bool} {Q : Bool → Hp → Prop} (ht : EvT t σ H b) (l0 : 0 < lim) (l1 : lim.natAbs < 2 ^ 200) (g : Rng H r n) (hn : n < 2 ^ 60) (hj : σ[j]? = some (some (.ref r))) (k : ∀ c H', Bu r H H' → Rng H' r (n + 1) → (c = true → b = true) → Q c H') :
    tAnd t (tTest (tOp rEq (tCall spDraw [] E (tCons (tVar j) (tCons (tC (.int lim)) tNil))) (tC (.int 0)))) σ H Q := by
  refine and_raw (ht H (Ex.refl H) _ fun H1 e1 => ?_)
  cases b with
  | true => exact iteT (test_raw (op_raw (draw_at (l := lim) (n := n) (ea_cons (ev_var hj) (ea_cons ev_c ea_nil)) l0 (log_small l1) hn (g.ex e1) fun H2 v b2 g2 _ _ => ⟨rfl, _, rfl, k _ H2 ((Bu.of e1).trans b2) g2 fun _ => rfl⟩)))
  | false => exact iteF (k false H1 (Bu.of e1) ((g.ex e1).le (by omega)) fun z => z)
end Cf

set_option exponentiation.threshold 20000
namespace Cf
open PySem PySem.Spec PyProof.Rows L2 Evl
/-! ## repr of data with great ints and with dicts -/
section
variable {prog : Program} {w : World} {A : Around} {E : Value → Shared → Prop} {s : Shared}
theorem big_repr {a : Int} {t : Tok} {Q : Value → Shared → Prop} (hu : A.units < cLine) (hn : s.heap.NoDigits) (ha : a.natAbs < 10 ^ 4300) (h : Q (.str (toString a) s.toks) { s with toks := s.toks + 1 }) : wpAny (model prog w) A (pyReprObj (.int a t)) Q E s := by
  refine wpAny_pyReprObj_slot hu (typeIs_int s a t) F.slot_int_repr.toG (wpAny_call_entry F.slot_int_repr (typeIs_int s a t) F.entry_int_repr ?_ (F.args_int_repr_1 _))
  unfold Builtin.«int.__repr__»
  show wpAny _ _ (do let r ← Builtin.overDigitLimit? a; _) _ _ s
  exact wpAny_bind (overDigitLimit_any hn (fun hlt => wpAny_bind (wpAny_mkStr (wpAny_pure ⟨_, rfl, _, _, rfl, h⟩) (int_text_fits10 hlt))) (fun hge => absurd hge (by omega)))
theorem rk_int {h₀ : Heap} {a : Int} {t : Tok} (hn : h₀.NoDigits) (ha : a.natAbs < 10 ^ 4300) (as : List Addr) (d : Nat) : ReprK prog w as h₀ d (.int a t) (toString a) := fun base hb A g E s Q hg hcl hu hk hQ => by
  rw [pyReprUnder_leaf (v := .int a t) (by omega) (fun _ e => nomatch e)]
  unfold pyRepr
  exact wpAny_bind (big_repr (by omega) (hn.keeps hk) ha (wpAny_pure (hQ s.heap _ fun _ _ e => e)))
end
/-! what can be shown: ints of at most 4300 digits -/
mutual
def ShB : PyData → Prop
  | .none => True
  | .bool _ => True
  | .int i => i.natAbs < 10 ^ 4300
  | .str _ => True
  | .list xs => ShBAll xs
  | .tuple xs => ShBAll xs
  | .dict kvs => ShBKv kvs
def ShBAll : List PyData → Prop
  | [] => True
  | x :: xs => ShB x ∧ ShBAll xs
def ShBKv : List (PyData × PyData) → Prop
  | [] => True
  | (k, v) :: r => ShB k ∧ ShB v ∧ ShBKv r
end
mutual
def noD : PyData → Prop
  | .list xs => noDAll xs
  | .tuple xs => noDAll xs
  | .dict _ => False
  | .none => True
  | .bool _ => True
  | .int _ => True
  | .str _ => True
def noDAll : List PyData → Prop
  | [] => True
  | x :: xs => noD x ∧ noDAll xs
end
theorem shB_split : ∀ kvs : List (PyData × PyData), ShBKv kvs → ShBAll (kvs.map (·.1)) ∧ ShBAll (kvs.map (·.2))
  | [], _ => ⟨trivial, trivial⟩
  | (k, v) :: r, h => ⟨⟨h.1, (shB_split r h.2.2).1⟩, ⟨h.2.1, (shB_split r h.2.2).2⟩⟩
section
variable {prog : Program} {w : World} {h₀ : Heap}
mutual
theorem rkB (hn : h₀.NoDigits) : ∀ {v : Value} {d : PyData} {as : List Addr}, Reads h₀ v d as → ShB d → (noD d ∨ sysModules ∉ as) → d.shown.length ≤ sizeLine → ∃ bs, ReadAtMost h₀ d.depth bs ∧ ReprK prog w bs h₀ d.depth v d.shown
  | _, _, _, .none, _, _, _ => ⟨[], (fun _ h => nomatch h), by simp only [PyData.shown]; exact .of_is ReprIs.none _ _ _⟩
  | _, _, _, .bool b, _, _, _ => ⟨[], (fun _ h => nomatch h), by simp only [PyData.shown]; exact .of_is (ReprIs.bool b) _ _ _⟩
  | _, _, _, .int i t, hs, _, _ => ⟨[], (fun _ h => nomatch h), by simp only [PyData.shown]; exact rk_int hn hs _ _⟩
  | _, _, _, .str x t, _, _, hz => ⟨[], (fun _ h => nomatch h), by simp only [PyData.shown]; exact .of_is (ReprIs.str x t (by simpa only [PyData.shown] using hz)) _ _ _⟩
  | _, _, _, .list (a := a) (vs := vs) (xs := xs) h1 h2 h3 h4, hs, hsm, hz => by
    have hz' : (listText (PyData.shownAll xs)).length ≤ sizeLine := by simpa only [PyData.shown] using hz
    obtain ⟨bs, hb, hk⟩ := rkBAll hn h4 hs (hsm.imp id fun z hm => z (List.mem_cons_of_mem _ hm)) (fun t ht => Nat.le_trans (listText_mem_le ht) hz')
    have r : Reads h₀ (.ref a) (.list xs) _ := .list h1 h2 h3 h4
    have hna : a ∉ bs := not_mem_of_deeper r (by simp only [PyData.depth]; omega) hb
    refine ⟨a :: bs, ReadAtMost.cons r (by simp only [PyData.depth]; omega) hb, ?_⟩
    simp only [PyData.depth, PyData.shown]
    obtain ⟨l⟩ := vs
    cases l with
    | nil =>
      have h4' : ReadsAll h₀ [] xs _ := h4
      cases h4'
      simp only [PyData.shownAll, listText_nil]
      exact ReprK.listEmpty h1 h2 h3
    | cons x l => exact ReprK.list h1 h2 h3 hna (by simpa using hk.length_eq) (fun i y e => hk.item i y (by simpa using e))
  | _, _, _, .tuple (a := a) (xs := xs) h1 h2 h3 h4, hs, hsm, hz => by
    have hz' : (tupleText (PyData.shownAll xs)).length ≤ sizeLine := by simpa only [PyData.shown] using hz
    obtain ⟨bs, hb, hk⟩ := rkBAll hn h4 hs hsm (fun t ht => Nat.le_trans (tupleText_mem_le ht) hz')
    have r : Reads h₀ (.ref a) (.tuple xs) _ := .tuple h1 h2 h3 h4
    have hna : a ∉ bs := not_mem_of_deeper r (by simp only [PyData.depth]; omega) hb
    refine ⟨a :: bs, ReadAtMost.cons r (by simp only [PyData.depth]; omega) hb, ?_⟩
    simp only [PyData.depth, PyData.shown]
    exact ReprK.tuple h1 h2 h3 hna hk
  | _, _, _, .dict (a := a) (es := es) (kvs := kvs) (as := as₁) (bs := bs₁) h1 h2 h3 h4 h5, hs, hno, hz => by
    have hz' : (dictText (PyData.shownKv kvs)).length ≤ sizeLine := by simpa only [PyData.shown] using hz
    have hno : sysModules ∉ _ := hno.elim (fun z => z.elim) id
    obtain ⟨hs1, hs2⟩ := shB_split kvs hs
    obtain ⟨b1, hb1, k1⟩ := rkBAll hn h4 hs1 (.inr fun hm => hno (List.mem_cons_of_mem _ (List.mem_append_left _ hm))) (fun t ht => let ⟨p, hp, hl⟩ := PyData.shownKv_key_le kvs t ht; Nat.le_trans hl (Nat.le_trans (dictText_mem_le hp) hz'))
    obtain ⟨b2, hb2, k2⟩ := rkBAll hn h5 hs2 (.inr fun hm => hno (List.mem_cons_of_mem _ (List.mem_append_right _ hm))) (fun t ht => let ⟨p, hp, hl⟩ := PyData.shownKv_val_le kvs t ht; Nat.le_trans hl (Nat.le_trans (dictText_mem_le hp) hz'))
    have r : Reads h₀ (.ref a) (.dict kvs) _ := .dict h1 h2 h3 h4 h5
    have hb : ReadAtMost h₀ (PyData.depthKv kvs) (b1 ++ b2) := (hb1.mono (PyData.depthAll_keys_le kvs)).append (hb2.mono (PyData.depthAll_vals_le kvs))
    have hna : a ∉ b1 ++ b2 := not_mem_of_deeper r (by simp only [PyData.depth]; omega) hb
    have hsys : (a == sysModules) = false := beq_eq_false_iff_ne.mpr fun e => hno (e ▸ List.mem_cons_self ..)
    refine ⟨a :: (b1 ++ b2), ReadAtMost.cons r (by simp only [PyData.depth]; omega) hb, ?_⟩
    simp only [PyData.depth, PyData.shown, PyData.shownKv_eq]
    exact ReprK.dict h1 h2 h3 hsys hna (ReprEntriesK.of_two es.toList _ _
      (k1.more_le (fun b hb => List.mem_append_left _ hb) (PyData.depthAll_keys_le kvs)) (k2.more_le (fun b hb => List.mem_append_right _ hb) (PyData.depthAll_vals_le kvs)))
theorem rkBAll (hn : h₀.NoDigits) : ∀ {vs : List Value} {ds : List PyData} {as : List Addr}, ReadsAll h₀ vs ds as → ShBAll ds → (noDAll ds ∨ sysModules ∉ as) → (∀ t ∈ PyData.shownAll ds, t.length ≤ sizeLine) →
    ∃ bs, ReadAtMost h₀ (PyData.depthAll ds) bs ∧ ReprAllK prog w bs h₀ (PyData.depthAll ds) vs (PyData.shownAll ds)
  | _, _, _, .nil, _, _, _ => ⟨[], (fun _ h => nomatch h), by simp only [PyData.shownAll]; exact .nil⟩
  | _, _, _, .cons (d := d) (ds := ds) r rs, hs, hsm, hz => by
    obtain ⟨b1, hb1, k1⟩ := rkB hn r hs.1 (hsm.imp And.left fun z hm => z (List.mem_append_left _ hm)) (hz _ (by simp only [PyData.shownAll]; exact List.mem_cons_self ..))
    obtain ⟨b2, hb2, k2⟩ := rkBAll hn rs hs.2 (hsm.imp And.right fun z hm => z (List.mem_append_right _ hm)) (fun t ht => hz t (by simp only [PyData.shownAll]; exact List.mem_cons_of_mem _ ht))
    refine ⟨b1 ++ b2, ?_, ?_⟩
    · intro b hm
      simp only [PyData.depthAll]
      rcases List.mem_append.mp hm with hm | hm
      · obtain ⟨d', as', r', hd'⟩ := hb1 b hm
        exact ⟨d', as', r', Nat.le_trans hd' (Nat.le_max_left _ _)⟩
      · obtain ⟨d', as', r', hd'⟩ := hb2 b hm
        exact ⟨d', as', r', Nat.le_trans hd' (Nat.le_max_right _ _)⟩
    · simp only [PyData.depthAll, PyData.shownAll]
      exact .cons ((k1.more fun b hb => List.mem_append_left _ hb).level_le (Nat.le_max_left _ _)) (k2.more_le (fun b hb => List.mem_append_right _ hb) (Nat.le_max_right _ _))
end
end
/-! ## what stands at an address: data without dicts, or a dict of ints -/
def NoDg (K : PySem.W.Frag) : Prop := PySem.W.nsIn K cStatics "sys.int_max_str_digits" = some none
theorem ns_none_of {K : PySem.W.Frag} {h : Heap} {a : Addr} {mg : Str → Option Value} {n : Str} (X : K.In h) (G : h.Ns a mg) (e : PySem.W.nsIn K a n = some none) : mg n = none := by
  obtain ⟨o, es, ep, ho, hd, _, hf⟩ := G
  unfold PySem.W.nsIn at e
  split at e
  · rename_i c d es' n' sl q
    have := X _ _ q
    rw [ho] at this
    cases this
    cases hd
    split at e
    · cases e
    · rename_i he
      rw [← hf]
      unfold nsFind findBy
      rw [← Array.find?_toList, he]
      rfl
  · cases e
section
variable {X : Cx} {pins : List (Addr × Obj)} {σ : L2.St} {H : Hp} {s : Shared}
theorem no_dg (N : NoDg X.K) (I : Inv X pins σ H s) : s.heap.NoDigits := by
  obtain ⟨mc, h1, _⟩ := I.nolimit
  exact ⟨mc, h1, ns_none_of I.kIn h1 N⟩
mutual
theorem dp_readsN (I : Inv X pins σ H s) : ∀ (d : PyData) (v : V) (u : Value), Dp X.K H v d → RelV v u → (∃ as, Reads s.heap u d as) ∧ noD d
  | .none, _, _, h, r => by
    cases h
    cases r
    exact ⟨⟨_, Reads.none⟩, trivial⟩
  | .bool b, _, _, h, r => by
    cases h
    cases r
    exact ⟨⟨_, Reads.bool b⟩, trivial⟩
  | .int i, _, _, h, r => by
    cases h
    obtain ⟨t, rfl⟩ := r
    exact ⟨⟨_, Reads.int i t⟩, trivial⟩
  | .str x, _, _, h, r => by
    cases h
    obtain ⟨t, rfl⟩ := r
    exact ⟨⟨_, Reads.str x t⟩, trivial⟩
  | .list ds, _, _, h, r => by
    cases h with
    | lst hs ha =>
      cases r
      obtain ⟨its, rv, ⟨o, n, ho, hc, _, hd⟩, _⟩ := I.list hs
      obtain ⟨⟨as, hr⟩, hn⟩ := dp_readsNAll I ds _ its ha rv
      exact ⟨⟨_, Reads.list ho hc hd hr⟩, hn⟩
  | .tuple ds, _, _, h, r => by
    cases h with
    | tup hs ha =>
      cases r
      obtain ⟨its, rv, pt, _⟩ := I.tuple hs
      obtain ⟨o, ho, hc, n, hd⟩ := pt
      obtain ⟨⟨as, hr⟩, hn⟩ := dp_readsNAll I ds _ its ha rv
      exact ⟨⟨_, Reads.tuple ho hc hd hr⟩, hn⟩
  | .dict _, _, _, h, _ => nomatch h
theorem dp_readsNAll (I : Inv X pins σ H s) : ∀ (ds : List PyData) (vs : List V) (us : List Value), DpAll X.K H vs ds → Vals vs us → (∃ as, ReadsAll s.heap us ds as) ∧ noDAll ds
  | [], _, _, h, r => by
    cases h
    cases r
    exact ⟨⟨_, ReadsAll.nil⟩, trivial⟩
  | d :: ds, _, _, h, r => by
    cases h with
    | cons h1 h2 =>
      cases r with
      | cons r1 r2 =>
        obtain ⟨⟨as, q1⟩, n1⟩ := dp_readsN I d _ _ h1 r1
        obtain ⟨⟨bs, q2⟩, n2⟩ := dp_readsNAll I ds _ _ h2 r2
        exact ⟨⟨_, ReadsAll.cons q1 q2⟩, n1, n2⟩
end
def keyD : Key → PyData
  | .inl n => .int n
  | .inr x => .str x
def intD : V → PyData
  | .int i => .int i
  | _ => .none
def kvD (p : Key × V) : PyData × PyData := (keyD p.1, intD p.2)
end
section
variable {X : Cx} {pins : List (Addr × Obj)} {σ : L2.St} {H : Hp} {s : Shared}
/-- a dict of ints, read -/
theorem pairs_reads {h : Heap} {prog : Program} {w : World} : ∀ {kvs : List (Key × V)} {vs : List (Key × Value)} {es : List DictEntry}, KV kvs vs → Pairs (mixKind prog w) es vs → (∀ kv ∈ kvs, ∃ i, kv.2 = V.int i) →
    ReadsAll h (es.map (·.key)) ((kvs.map kvD).map (·.1)) [] ∧ ReadsAll h (es.map (·.val)) ((kvs.map kvD).map (·.2)) []
  | [], _, _, r, p, _ => by
    cases r
    cases p
    exact ⟨.nil, .nil⟩
  | kv :: kvs, _, _, r, p, hi => by
    cases r with
    | cons r1 r2 =>
      cases p with
      | cons p1 p2 p3 =>
        obtain ⟨i, hi1⟩ := hi kv (List.mem_cons_self ..)
        obtain ⟨q1, q2⟩ := pairs_reads (h := h) r2 p3 fun x hx => hi x (List.mem_cons_of_mem _ hx)
        obtain ⟨e1, e2⟩ := r1
        rw [hi1] at e2
        obtain ⟨t, ht⟩ := e2
        refine ⟨?_, ?_⟩
        · refine ReadsAll.cons (as := []) (bs := []) ?_ q1
          show Reads h (DictEntry.key _) (keyD kv.1) []
          rcases keyIs_shape p1 with ⟨n, u, k1, k2⟩ | ⟨x, u, k1, k2⟩
          · rw [e1, k1, k2]
            exact .int n u
          · rw [e1, k1, k2]
            exact .str x u
        · refine ReadsAll.cons (as := []) (bs := []) ?_ q2
          show Reads h (DictEntry.val _) (intD kv.2) []
          rw [p2, ht, hi1]
          exact .int i t
/-- an item: data without dicts, or a dict of ints -/
def It1 (K : PySem.W.Frag) (H : Hp) (v : V) (d : PyData) : Prop := Dp K H v d ∨ ∃ a kvs, v = .ref a ∧ H a = some (.dK kvs) ∧ d = .dict (kvs.map kvD) ∧ ∀ kv ∈ kvs, ∃ i, kv.2 = V.int i
theorem It1.ex {K : PySem.W.Frag} {H H' : Hp} {v : V} {d : PyData} (e : Ex H H') (h : It1 K H v d) : It1 K H' v d := by
  rcases h with h | ⟨a, kvs, h1, h2, h3⟩
  · exact .inl (dp_ex e d v h)
  · exact .inr ⟨a, kvs, h1, e _ _ h2, h3⟩
def It1s (K : PySem.W.Frag) (H : Hp) : List V → List PyData → Prop
  | [], [] => True
  | v :: vs, d :: ds => It1 K H v d ∧ It1s K H vs ds
  | _, _ => False
theorem It1s.ex {K : PySem.W.Frag} {H H' : Hp} (e : Ex H H') : ∀ {vs : List V} {ds : List PyData}, It1s K H vs ds → It1s K H' vs ds
  | [], [], _ => trivial
  | v :: vs, d :: ds, h => ⟨h.1.ex e, h.2.ex e⟩
  | [], _ :: _, h => h
  | _ :: _, [], h => h
theorem it1_reads (I : Inv X pins σ H s) {v : V} {u : Value} {d : PyData} (h : It1 X.K H v d) (r : RelV v u) : ∃ as, Reads s.heap u d as ∧ (noD d ∨ sysModules ∉ as) := by
  rcases h with h | ⟨a, kvs, rfl, h2, rfl, hi⟩
  · obtain ⟨⟨as, q⟩, n⟩ := dp_readsN I d v u h r
    exact ⟨as, q, .inl n⟩
  · obtain ⟨hz, hs, vs, rel, o, es, ep, ho, hx, hd, hk, hp, hn⟩ := dk_of I.hok h2
    cases r
    obtain ⟨q1, q2⟩ := pairs_reads (h := s.heap) rel hp hi
    exact ⟨_, Reads.dict ho hx.1 hd q1 q2, .inr fun hm => by
      rcases List.mem_cons.mp hm with z | z
      · exact absurd z.symm (beq_eq_false_iff_ne.mp hs)
      · exact List.not_mem_nil z⟩
theorem it1s_repr {prog : Program} {w : World} (hn : s.heap.NoDigits) (I : Inv X pins σ H s) : ∀ {vs : List V} {us : List Value} {ds : List PyData}, It1s X.K H vs ds → Vals vs us → ShBAll ds → (∀ t ∈ PyData.shownAll ds, t.length ≤ sizeLine) →
    ∃ as bs, ReadsAll s.heap us ds as ∧ ReadAtMost s.heap (PyData.depthAll ds) bs ∧ ReprAllK prog w bs s.heap (PyData.depthAll ds) us (PyData.shownAll ds)
  | [], _, [], _, r, _, _ => by
    cases r
    exact ⟨_, [], .nil, (fun _ h => nomatch h), by simp only [PyData.shownAll]; exact .nil⟩
  | v :: vs, _, d :: ds, h, r, hs, hz => by
    cases r with
    | cons r1 r2 =>
      obtain ⟨as, q1, n1⟩ := it1_reads I h.1 r1
      obtain ⟨as2, b2, q2, hb2, k2⟩ := it1s_repr hn I h.2 r2 hs.2 (fun t ht => hz t (by simp only [PyData.shownAll]; exact List.mem_cons_of_mem _ ht))
      obtain ⟨b1, hb1, k1⟩ := rkB (prog := prog) (w := w) hn q1 hs.1 n1 (hz _ (by simp only [PyData.shownAll]; exact List.mem_cons_self ..))
      refine ⟨_, b1 ++ b2, .cons q1 q2, ?_, ?_⟩
      · intro b hm
        simp only [PyData.depthAll]
        rcases List.mem_append.mp hm with hm | hm
        · obtain ⟨d', as', r', hd'⟩ := hb1 b hm
          exact ⟨d', as', r', Nat.le_trans hd' (Nat.le_max_left _ _)⟩
        · obtain ⟨d', as', r', hd'⟩ := hb2 b hm
          exact ⟨d', as', r', Nat.le_trans hd' (Nat.le_max_right _ _)⟩
      · simp only [PyData.depthAll, PyData.shownAll]
        exact .cons ((k1.more fun b hb => List.mem_append_left _ hb).level_le (Nat.le_max_left _ _)) (k2.more_le (fun b hb => List.mem_append_right _ hb) (Nat.le_max_right _ _))
  | [], _, _ :: _, h, _, _, _ => h.elim
  | _ :: _, _, [], h, _, _, _ => h.elim
def rReprI (K : PySem.W.Frag) : List V → Hp → VK → Prop := fun xs H Q => ∃ (a : Addr) (vs : List V) (ds : List PyData), xs = [.ref a] ∧ SqL K H a vs ∧ vs ≠ [] ∧ It1s K H vs ds ∧ ShBAll ds ∧
  (PyData.shown (.list ds)).length ≤ sizeLine ∧ PyData.depthAll ds ≤ 60 ∧ Q (.str (PyData.shown (.list ds))) H
theorem call_reprI (N : NoDg X.K) (hG : X.A.guards = some []) (hu : X.A.units + 64 < cLine) : CallR X (.builtin "repr") (rReprI X.K) := by
  intro pins s σ H xs us Q I r h
  obtain ⟨a, vs, ds, rfl, hl, hne, hi, hs, hz, hp, q⟩ := h
  obtain ⟨u, rfl, rx⟩ := vals1 r
  obtain rfl : u = Value.ref a := rx
  obtain ⟨its, rv, ⟨o, n, ho, hc, _, hd⟩, _⟩ := I.list hl
  have hz' : (listText (PyData.shownAll ds)).length ≤ sizeLine := by simpa only [PyData.shown] using hz
  obtain ⟨as, bs, hr, hb, hk⟩ := it1s_repr (prog := X.prog) (w := X.w) (no_dg N I) I hi rv hs (fun t ht => Nat.le_trans (listText_mem_le ht) hz')
  have hna : a ∉ bs := not_mem_of_deeper (.list ho hc hd hr) (by simp only [PyData.depth]; omega) hb
  refine call_repr_slot (by omega) ⟨o, ho, hc⟩ F.slot_list_repr.toG ?_
  cases its with
  | nil =>
    cases rv
    exact absurd rfl hne
  | cons x l =>
    refine call_list_reprK ho hc hd hna (by simpa using hk.length_eq) (fun i y e => hk.item i y (by simpa using e)) hG (fun b _ => Clear.nil b) (by show X.A.units + 1 + (PyData.depthAll ds + 1) < cLine; omega) (fun b o e => e) (fun h' u tk kp => ?_) hz'
    refine ⟨_, _, rfl, .str (PyData.shown (.list ds)), H, I.kept kp, ⟨u, ?_⟩, q⟩
    simp only [PyData.shown]
end
end Cf

set_option exponentiation.threshold 20000
namespace Cf
open PySem PySem.Spec PyProof.Rows L2 Evl
/-! ## whole expressions, values of variables -/
theorem lv_all (L : List Lf) : lvL L L.length = L := by
  unfold lvL
  rw [Nat.sub_self, List.drop_zero]
def spPW : Sp := fun vs H Q _ => ∃ r la n L truth, vs = [.ref r, .ref la, .bl truth] ∧ 1 ≤ L.length ∧ L.length ≤ 10 ∧ n < 2 ^ 40 ∧ Rng H r n ∧ H la = some (.lst (lfV L)) ∧ (∀ x ∈ L, TreeAt H x.1 x.2 ∧ LeafOk x.2) ∧
  ∀ p nd H', Bu r H H' → Rng H' r (n + 300) → TreeAt H' p nd → nd.isE = !(truth && decide (1 < L.length)) → nd.wf → nd.size ≤ 2 * L.length + 7 → nd.sb ≤ 136 * nd.size → nd.vars.Perm (lvV L) → Q (.ref p) H'
/-- rows that stand at addresses -/
abbrev RowA := Addr × Row
def rowV (L : List RowA) : List V := L.map fun x => V.ref x.1
def RowsIn (H : Hp) (L : List RowA) : Prop := ∀ x ∈ L, H x.1 = some (.tup x.2.vs)
theorem rows_in_ex {H H' : Hp} {L : List RowA} (e : Ex H H') (h : RowsIn H L) : RowsIn H' L := fun x hx => e _ _ (h x hx)
theorem rows_in_tk {H H' : Hp} {L : List RowA} (e : TupK H H') (h : RowsIn H L) : RowsIn H' L := fun x hx => e _ _ (h x hx)
theorem VarsAt.list {H : Hp} {l : Addr} {rows : List Row} (h : VarsAt H l rows) : ∃ L : List RowA, H l = some (.lst (rowV L)) ∧ RowsIn H L ∧ L.map (·.2) = rows := by
  obtain ⟨ps, h1, h2, h3⟩ := h
  have hz : (ps.zip rows).map Prod.fst = ps := List.map_fst_zip (by omega)
  have hz2 : (ps.zip rows).map Prod.snd = rows := List.map_snd_zip (by omega)
  refine ⟨ps.zip rows, ?_, ?_, hz2⟩
  · rw [h1]
    congr 2
    unfold rowV
    rw [show (fun x : RowA => V.ref x.1) = V.ref ∘ Prod.fst from rfl, ← List.map_map, hz]
  · intro x hx
    obtain ⟨j, hj, hjx⟩ := List.mem_iff_getElem.mp hx
    rw [List.getElem_zip] at hjx
    subst hjx
    have hj1 : j < ps.length := by rw [List.length_zip] at hj; omega
    have hj2 : j < rows.length := by rw [List.length_zip] at hj; omega
    obtain ⟨p, q1, q2⟩ := h3 j rows[j] (List.getElem?_eq_getElem hj2)
    rw [List.getElem?_eq_getElem hj1] at q1
    cases q1
    exact q2
theorem rows_dat_lay : ∀ {rows : List Row}, (∀ w ∈ rows, PyData.strOk w.name = true) → PyData.canLayAll0 (rows.map Row.dat) = true
  | [], _ => by simp [PyData.canLayAll0]
  | w :: rows, h => by
    have ih := rows_dat_lay (rows := rows) fun x hx => h x (List.mem_cons_of_mem _ hx)
    have h1 := h w (List.mem_cons_self ..)
    have h2 : PyData.strOk w.kind.s = true := by cases w.kind <;> decide +kernel
    simp only [List.map_cons, PyData.canLayAll0, Row.dat, PyData.canLay0, h1, h2, Bool.and_true, Bool.true_and]
    exact ih
theorem rows_dat_depth : ∀ rows : List Row, PyData.depthAll (rows.map Row.dat) ≤ 3
  | [] => by simp [PyData.depthAll]
  | w :: rows => by
    have ih := rows_dat_depth rows
    simp only [List.map_cons, PyData.depthAll, Row.dat, PyData.depth]
    omega
theorem rows_dat_shaped {rows : List Row} (h : ∀ w ∈ rows, PyData.strOk w.name = true) : SeqAt.shaped (.list (rows.map Row.dat)) = true := by
  have h1 := rows_dat_depth rows
  show (PyData.canLay0 (.list (rows.map Row.dat)) && decide (PyData.depth (.list (rows.map Row.dat)) ≤ 64)) = true
  rw [Bool.and_eq_true]
  refine ⟨by simp only [PyData.canLay0]; exact rows_dat_lay h, decide_eq_true ?_⟩
  simp only [PyData.depth]
  omega
theorem rows_dat_nil (rows : List Row) : PyData.eqv (.list (rows.map Row.dat)) (.list []) = decide (rows = []) := by cases rows <;> simp [PyData.eqv, PyData.eqvAll]
theorem rowV_dp {K : PySem.W.Frag} {H : Hp} {l : Addr} {L : List RowA} (h : H l = some (.lst (rowV L))) (hr : RowsIn H L) : Dp K H (.ref l) (.list ((L.map (·.2)).map Row.dat)) := by
  refine .lst (sq_of h) (dps_at (by simp [rowV]) fun j d hj => ?_)
  rw [List.getElem?_map] at hj
  obtain ⟨w, hw, rfl⟩ := Option.map_eq_some_iff.mp hj
  rw [List.getElem?_map] at hw
  obtain ⟨x, hx, rfl⟩ := Option.map_eq_some_iff.mp hw
  refine ⟨.ref x.1, by unfold rowV; rw [List.getElem?_map, hx]; rfl, .tup (st_of (hr x (List.mem_of_getElem? hx))) (.cons (.str _) (.cons (.str _) (.cons (.int _) (.cons (.int _) .nil))))⟩
/-- values that are given: in the order in which they were put in -/
abbrev Gv := Row × Int
def gvL (L : List Gv) : List (Key × V) := L.map fun x => (.inr x.1.name, .int x.2)
def gvOf (L : List Gv) (x : Str) : Int := ((L.find? fun y => decide (y.1.name = x)).map (·.2)).getD 0
theorem gv_val (x : Str) : ∀ L : List Gv, valV (gvL L) (.inr x) = ((L.find? fun y => decide (y.1.name = x)).map fun y => V.int y.2)
  | [] => rfl
  | y :: L => by
    have ih := gv_val x L
    unfold gvL at ih ⊢
    simp only [List.map_cons, valV, List.find?_cons] at ih ⊢
    by_cases e : y.1.name = x
    · simp [e]
    · have e2 : ¬ ((Sum.inr y.1.name : Key) = Sum.inr x) := fun z => e (Sum.inr.inj z)
      simp only [e, e2, decide_false]
      exact ih
theorem gv_none {L : List Gv} {x : Str} (h : x ∉ L.map (·.1.name)) : valV (gvL L) (.inr x) = none := by
  rw [gv_val, List.find?_eq_none.mpr]
  · rfl
  · intro y hy z
    exact h (List.mem_map.mpr ⟨y, hy, of_decide_eq_true z⟩)
theorem gv_put {L : List Gv} {w : Row} {i : Int} (h : w.name ∉ L.map (·.1.name)) : putK (gvL L) (.inr w.name) (.int i) = gvL (L ++ [(w, i)]) := by
  unfold putK
  rw [valV_any, gv_none h]
  unfold gvL
  rw [List.map_append]
  rfl
theorem gv_at : ∀ {L : List Gv} {y : Gv}, (L.map (·.1.name)).Nodup → y ∈ L → L.find? (fun z => decide (z.1.name = y.1.name)) = some y
  | x :: L, y, hn, hy => by
    rw [List.map_cons, List.nodup_cons] at hn
    rw [List.find?_cons]
    rcases List.mem_cons.mp hy with rfl | hy
    · simp
    · have : ¬ x.1.name = y.1.name := fun z => hn.1 (by rw [z]; exact List.mem_map.mpr ⟨y, hy, rfl⟩)
      simp only [this, decide_false]
      exact gv_at hn.2 hy
/-- the values are those of the rows -/
structure GvOk (L : List Gv) (rows : List Row) : Prop where
  pm : (L.map (·.1)).Perm rows
  nd : (rows.map Row.name).Nodup
  le : ∀ y ∈ L, y.1.low ≤ y.2 ∧ y.2 ≤ y.1.high
theorem GvOk.nd2 {L : List Gv} {rows : List Row} (h : GvOk L rows) : (L.map (·.1.name)).Nodup := by
  have e : L.map (·.1.name) = (L.map (·.1)).map Row.name := by rw [List.map_map]; rfl
  rw [e]
  exact ((h.pm.map Row.name).nodup_iff).mpr h.nd
theorem GvOk.vals {L : List Gv} {rows : List Row} (h : GvOk L rows) : ValsOk (gvL L) rows (gvOf L) := by
  intro w hw
  obtain ⟨y, hy, rfl⟩ := List.mem_map.mp (h.pm.mem_iff.mpr hw)
  have e := gv_at h.nd2 hy
  have e2 : gvOf L y.1.name = y.2 := by unfold gvOf; rw [e]; rfl
  refine ⟨?_, ?_⟩
  · rw [gv_val, e, e2]
    rfl
  · rw [e2]
    exact h.le y hy
theorem GvOk.rev {L : List Gv} {rows : List Row} (h : GvOk L rows) : GvOk L.reverse rows := ⟨by rw [List.map_reverse]; exact (List.reverse_perm _).trans h.pm, h.nd, fun y hy => h.le y (List.mem_reverse.mp hy)⟩
theorem gvOf_rev {L : List Gv} {rows : List Row} (h : GvOk L rows) : gvOf L.reverse = gvOf L := by
  funext x
  by_cases hx : ∃ y ∈ L, y.1.name = x
  · obtain ⟨y, hy, rfl⟩ := hx
    have a := gv_at h.nd2 hy
    have b := gv_at h.rev.nd2 (List.mem_reverse.mpr hy)
    unfold gvOf
    rw [a, b]
  · have a : L.find? (fun y => decide (y.1.name = x)) = none := List.find?_eq_none.mpr fun y hy z => hx ⟨y, hy, of_decide_eq_true z⟩
    have b : L.reverse.find? (fun y => decide (y.1.name = x)) = none := List.find?_eq_none.mpr fun y hy z => hx ⟨y, List.mem_reverse.mp hy, of_decide_eq_true z⟩
    unfold gvOf
    rw [a, b]
theorem gvOf_small {L : List Gv} {rows : List Row} (h : GvOk L rows) (hf : ∀ w ∈ rows, w.Fit) (x : Str) : (gvOf L x).natAbs < 2 ^ 136 := by
  unfold gvOf
  cases e : L.find? (fun y => decide (y.1.name = x)) with
  | none => show (0 : Int).natAbs < _; decide
  | some y =>
    have hy := List.mem_of_find?_eq_some e
    have h1 := h.le y hy
    have h2 := hf y.1 (h.pm.mem_iff.mp (List.mem_map.mpr ⟨y, hy, rfl⟩))
    obtain ⟨_, h3, h4⟩ := h2
    show y.2.natAbs < _
    omega
theorem gv_len {L : List Gv} {rows : List Row} (h : GvOk L rows) : L.length = rows.length := by
  have := h.pm.length_eq
  rw [List.length_map] at this
  exact this
def spGv : Sp := fun vs H Q _ => ∃ r l n rows, vs = [.ref r, .ref l] ∧ VarsAt H l rows ∧ (rows.map Row.name).Nodup ∧ (∀ w ∈ rows, PyData.strOk w.name = true) ∧ (∀ w ∈ rows, w.Fit) ∧ rows.length ≤ 8 ∧ n < 2 ^ 40 ∧ Rng H r n ∧
  ∀ d L H', H d = none → Bu r H H' → Rng H' r (n + 24) → H' d = some (.dK (gvL L)) → GvOk L rows → Q (.ref d) H'
def spTu : Sp := fun vs H Q _ => ∃ d L rows, vs = [.ref d] ∧ H d = some (.dK (gvL L)) ∧ GvOk L rows ∧ rows.length ≤ 1000 ∧ ∀ d2 H', H d2 = none → Ex H H' → H' d2 = some (.dK (gvL L.reverse)) → Q (.ref d2) H'
/-- d[k] = v, the key a text that is worked out -/
theorem s_dputV {σ : L2.St} {H : Hp} {ta tk tv : TE} {D : Ends} {bg : Addr} {kvs : List (Key × V)} {k : Str} {v : V} (hv : Ev tv σ H v) (ho : Ev ta σ H (.ref bg)) (hk : Ev tk σ H (.str k)) (h : H bg = some (.dK kvs)) (hl : kvs.length < 100000) (n : ∀ H1, Ex H H1 → D.nx σ (upd H1 bg (.dK (putK kvs (.inr k) v)))) : sDPut ta tk tv D σ H :=
  hv H (Ex.refl H) _ fun H1 e1 => ho H1 e1 _ fun H2 e2 => hk H2 (e1.trans e2) _ fun H3 e3 => ⟨bg, _, rfl, DPut.k (k := .inr k) (e3 _ _ (e2 _ _ (e1 _ _ h))) (sz_lt hl), n H3 (e1.trans (e2.trans e3))⟩
theorem prs_raw {tk tv : TE} {r : List (TE × TE)} {σ : L2.St} {H : Hp} {Q : List (V × V) → Hp → Prop} (h : tk σ H fun x H1 => tv σ H1 fun y H2 => tPairs r σ H2 fun ps H3 => Q ((x, y) :: ps) H3) : tPairs ((tk, tv) :: r) σ H Q := h
theorem prs_nil {σ : L2.St} {H : Hp} {Q : List (V × V) → Hp → Prop} (h : Q [] H) : tPairs [] σ H Q := h
theorem q_raw' {te : TE} {tz : TS} {D : Ends} {g : TG} {σ : L2.St} {H : Hp} (h : te σ H fun x H1 => g x σ H1 fun σ2 H2 => tz D σ2 H2) : tSeq (tAsg te g) tz D σ H := h
theorem dput_raw {ta tk tv : TE} {D : Ends} {σ : L2.St} {H : Hp} (h : tv σ H fun v H1 => ta σ H1 fun x H2 => tk σ H2 fun y H3 => ∃ a H4, x = .ref a ∧ DPut H3 a y v H4 ∧ D.nx σ H4) : sDPut ta tk tv D σ H := h
theorem sdrop_raw {te : TE} {D : Ends} {σ : L2.St} {H : Hp} (h : te σ H fun _ H1 => D.nx σ H1) : tDrop te D σ H := h
/-! ## the scene of k14 -/
def chr8 : List Nat := [104, 103, 102, 101, 100, 99, 98, 97]
def spec8 : List Str := ["shr", "var", "lit", "mul", "if", "less", "first", "result"]
def nms (t : Nat) : List Str := [(⟨#[chr8.getD t 0]⟩ : Str) ++ ("" : Str), (⟨#[chr8.getD t 0]⟩ : Str) ++ ("yx" : Str), (⟨#[chr8.getD t 0]⟩ : Str) ++ ("sevenab" : Str), spec8.getD t ""]
def nmGood (x : Str) : Bool := nameOk x && PyData.strOk x && smStr x
theorem nms_ok : ∀ t, t < 8 → ∀ x ∈ nms t, nmGood x = true := by decide +kernel
theorem nms_all : ((List.range 8).all fun s => (List.range 8).all fun t => s == t || (nms s).all fun x => !(nms t).any fun y => decide (y = x)) = true := by decide +kernel
theorem nms_dis (s : Nat) (hs : s < 8) (t : Nat) (ht : t < 8) (hst : s ≠ t) (x : Str) (hx : x ∈ nms s) : x ∉ nms t := fun hy => by
  have h1 := List.all_eq_true.mp (List.all_eq_true.mp nms_all s (List.mem_range.mpr hs)) t (List.mem_range.mpr ht)
  rw [Bool.or_eq_true] at h1
  rcases h1 with h1 | h1
  · exact hst (by simpa using h1)
  · have h2 := List.all_eq_true.mp h1 x hx
    have h3 : ((nms t).any fun y => decide (y = x)) = true := List.any_eq_true.mpr ⟨x, hy, decide_eq_true rfl⟩
    rw [h3] at h2
    exact nomatch h2
theorem nmGood_all {x : Str} (h : nmGood x = true) : nameOk x = true ∧ PyData.strOk x = true ∧ smStr x = true := by
  unfold nmGood at h
  rw [Bool.and_eq_true, Bool.and_eq_true] at h
  exact ⟨h.1.1, h.1.2, h.2⟩
theorem VarsAt.of {H : Hp} {l : Addr} {L : List RowA} (h : H l = some (.lst (rowV L))) (hr : RowsIn H L) : VarsAt H l (L.map (·.2)) := by
  refine ⟨L.map (·.1), by rw [h, List.map_map]; rfl, by rw [List.length_map, List.length_map], fun j w hj => ?_⟩
  rw [List.getElem?_map] at hj
  obtain ⟨x, hx, rfl⟩ := Option.map_eq_some_iff.mp hj
  exact ⟨x.1, by rw [List.getElem?_map, hx]; rfl, hr x (List.mem_of_getElem? hx)⟩
structure Scene (H : Hp) (lf lv : Addr) (rows : List Row) (L : List Lf) : Prop where
  v : VarsAt H lf rows
  l : H lv = some (.lst (lfV L))
  t : ∀ x ∈ L, TreeAt H x.1 x.2 ∧ LeafOk x.2
  nm : ∀ w ∈ rows, nmGood w.name = true
  nd : (rows.map Row.name).Nodup
  ft : ∀ w ∈ rows, w.Fit
  r8 : rows.length ≤ 8
  l1 : 1 ≤ L.length
  l8 : L.length ≤ 8
  vs : (lvV L).Perm (rows.map Row.name)
def spFar : Sp := fun vs H Q _ => ∃ r n, vs = [.ref r] ∧ n < 2 ^ 40 ∧ Rng H r n ∧ ∀ p lf lv rows L H', Bu r H H' → Rng H' r (n + 100) → H' p = some (.lst [.ref lf, .ref lv]) → Scene H' lf lv rows L → Q (.ref p) H'
theorem lcL_go {K : PySem.W.Frag} {σ : L2.St} {H : Hp} {te tl : TE} {tt : TT} {g : TG} {vs : List Nat} {a : Addr} {xs : List V} {Q : VK} (h : Ev tl σ H (.ref a)) (hx : SqL K H a xs) (Pv : Addr → Nat → Hp → Prop) (h0 : ∀ D H1, Ex H H1 → H1 D = none → Pv D 0 (upd H1 D (.lst [])))
    (hk : ∀ D i H', i ≤ xs.length → Pv D i H' → SqL K H' a xs)
    (hs : ∀ D i x H', xs[i]? = some x → Pv D i H' → g x (wipe σ vs) H' fun σ2 H2 => wipe σ2 vs = wipe σ vs ∧ tt σ2 H2 fun b H3 =>
      if b = true then te σ2 H3 fun y H4 => ∃ acc, H4 D = some (.lst acc) ∧ acc.length < sizeLine ∧ Pv D (i + 1) (upd H4 D (.lst (acc ++ [y]))) else Pv D (i + 1) H3)
    (hd : ∀ D H', Pv D xs.length H' → Q (.ref D) H') : tLc (iList K tl) g tt te vs σ H Q :=
  h H (Ex.refl H) _ fun H1 e1 => ⟨a, rfl, ⟨xs, ex_l e1 hx⟩, fun D nD => lc_list (Pv D) (h0 D H1 e1 nD) (hk D) (hs D) (hd D)⟩
theorem nms_nodup {rows : List Row} (h : ∀ (j : Nat) (w : Row), rows[j]? = some w → w.name ∈ nms j) (h8 : rows.length ≤ 8) : (rows.map Row.name).Nodup := by
  rw [List.nodup_iff_pairwise_ne, List.pairwise_iff_getElem]
  intro i j hi hj hij z
  rw [List.length_map] at hi hj
  rw [List.getElem_map, List.getElem_map] at z
  have a := h i rows[i] (List.getElem?_eq_getElem hi)
  have b := h j rows[j] (List.getElem?_eq_getElem hj)
  rw [z] at a
  exact nms_dis j (by omega) i (by omega) (by omega) _ b a
theorem nms_good {rows : List Row} (h : ∀ (j : Nat) (w : Row), rows[j]? = some w → w.name ∈ nms j) (h8 : rows.length ≤ 8) : ∀ w ∈ rows, nmGood w.name = true := by
  intro w hw
  obtain ⟨j, hj, rfl⟩ := List.mem_iff_getElem.mp hw
  exact nms_ok j (by omega) _ (h j _ (List.getElem?_eq_getElem hj))
theorem chr8_at {t : Nat} (h : t < 8) : atI ("hgfedcba" : Str).cps.toList (t : Int) = some (chr8.getD t 0) := by
  match t, h with
  | 0, _ => decide +kernel
  | 1, _ => decide +kernel
  | 2, _ => decide +kernel
  | 3, _ => decide +kernel
  | 4, _ => decide +kernel
  | 5, _ => decide +kernel
  | 6, _ => decide +kernel
  | 7, _ => decide +kernel
end Cf

set_option exponentiation.threshold 20000
namespace Cf
open PySem PySem.Spec PyProof.Rows L2 Evl
/-! ## bits of a value -/
theorem num_sb {g : Str → Int} (hg : ∀ x, (g x).natAbs < 2 ^ 136) : ∀ {nd : Nd}, nd.wf → (nd.num g).natAbs < 2 ^ nd.sb
  | .var x, w => hg x
  | .lit n s, w => by
    have h1 : 0 ≤ n := w.1
    have h2 : n < 2 ^ 136 := w.2.1
    show n.natAbs < 2 ^ 136
    omega
  | .cast k e, w => num_sb (nd := e) hg w.2
  | .neg e, w => by
    have ih := num_sb hg w.2
    simp only [Nd.num, Int.natAbs_neg, Nd.sb]
    exact ih
  | .bin o e f, w => by
    have ih := num_sb hg w.2.2.1
    have jh := num_sb hg w.2.2.2
    have h4 : 2 ^ e.sb ≤ 2 ^ (e.sb + f.sb) := pw_le (by omega)
    have h5 : 2 ^ f.sb ≤ 2 ^ (e.sb + f.sb) := pw_le (by omega)
    have h6 : 2 ^ (e.sb + f.sb) * 2 = 2 ^ (Nd.bin o e f).sb := (Nat.pow_succ ..).symm
    cases o with
    | add => simp only [Nd.num, Bo.op]; omega
    | sub => simp only [Nd.num, Bo.op]; omega
    | mul =>
      simp only [Nd.num, Bo.op, Int.natAbs_mul]
      have h7 : (e.num g).natAbs * (f.num g).natAbs < 2 ^ e.sb * 2 ^ f.sb := Nat.mul_lt_mul'' ih jh
      rw [← Nat.pow_add] at h7
      omega
  | .sh true e k, w => by
    obtain ⟨_, we, w1, w2⟩ := w
    have ih := num_sb hg we
    have h7 : (e.num g).natAbs * 2 ^ k.toNat < 2 ^ e.sb * 2 ^ k.toNat := Nat.mul_lt_mul_of_pos_right ih (Nat.pow_pos (by decide))
    rw [← Nat.pow_add] at h7
    have h9 : ((2 : Int) ^ k.toNat).natAbs = 2 ^ k.toNat := by rw [Int.natAbs_pow]; rfl
    simp only [Nd.num, Int.natAbs_mul, h9, Nd.sb]
    exact h7
  | .sh false e k, w => by
    have ih := num_sb hg w.2.1
    have h2 : 2 ^ e.sb ≤ 2 ^ (Nd.sh false e k).sb := pw_le (by simp only [Nd.sb]; omega)
    have h3 := Int.natAbs_ediv_le_natAbs (e.num g) (2 ^ k.toNat)
    simp only [Nd.num]
    omega
  | .ite c e f, w => by
    have ih := num_sb hg w.2.2.2.2.1
    have jh := num_sb hg w.2.2.2.2.2
    have h4 : 2 ^ e.sb ≤ 2 ^ (Nd.ite c e f).sb := pw_le (by simp only [Nd.sb]; omega)
    have h5 : 2 ^ f.sb ≤ 2 ^ (Nd.ite c e f).sb := pw_le (by simp only [Nd.sb]; omega)
    simp only [Nd.num]
    split <;> omega
  | .cmp b e f, w => by simp only [Nd.num]; exact Nat.pow_pos (by decide)
  | .nt c, w => by simp only [Nd.num]; exact Nat.pow_pos (by decide)
  | .lg b c d, w => by simp only [Nd.num]; exact Nat.pow_pos (by decide)
/-! ## how long the texts are -/
mutual
theorem sm_bulk : ∀ d : PyData, Sm d → d.bulk + 1 ≤ 31 * szD d
  | .none, _ => by simp only [PyData.bulk, szD]; omega
  | .bool _, _ => by simp only [PyData.bulk, szD]; omega
  | .int _, _ => by simp only [PyData.bulk, szD]; omega
  | .str x, h => by
    have h1 : x.cps.size ≤ 30 ∧ _ := h
    simp only [PyData.bulk, szD]
    omega
  | .list xs, h => by
    have := sm_bulks xs h
    simp only [PyData.bulk, szD]
    omega
  | .tuple xs, h => by
    have := sm_bulks xs h
    simp only [PyData.bulk, szD]
    omega
  | .dict _, h => h.elim
theorem sm_bulks : ∀ ds : List PyData, SmAll ds → PyData.bulkAll ds ≤ 31 * szAll ds
  | [], _ => by simp only [PyData.bulkAll, szAll]; omega
  | x :: xs, h => by
    have a := sm_bulk x h.1
    have b := sm_bulks xs h.2
    simp only [PyData.bulkAll, szAll]
    omega
end
theorem big_of {i : Int} {n : Nat} (h : i.natAbs < 2 ^ n) (hn : n ≤ 3328) : i.natAbs < 10 ^ 1002 := by
  have h1 : (2 : Nat) ^ n ≤ 2 ^ 3328 := Nat.pow_le_pow_right (by decide) hn
  have h2 : (2 : Nat) ^ 3328 < 10 ^ 1002 := by decide +kernel
  omega
theorem big_43 {i : Int} (h : i.natAbs < 10 ^ 1002) : i.natAbs < 10 ^ 4300 := by
  have h2 : (10 : Nat) ^ 1002 < 10 ^ 4300 := by decide +kernel
  omega
mutual
theorem sm_shB : ∀ d : PyData, Sm d → ShB d
  | .none, _ => trivial
  | .bool _, _ => trivial
  | .int i, h => by
    have h1 : i.natAbs < 2 ^ 140 := h
    exact big_43 (big_of h1 (by decide))
  | .str _, _ => trivial
  | .list xs, h => sm_shBs xs h
  | .tuple xs, h => sm_shBs xs h
  | .dict _, h => h.elim
theorem sm_shBs : ∀ ds : List PyData, SmAll ds → ShBAll ds
  | [], _ => trivial
  | x :: xs, h => ⟨sm_shB x h.1, sm_shBs xs h.2⟩
end
theorem rows_szB : ∀ rows : List Row, szAll (rows.map Row.dat) ≤ 5 * rows.length
  | [] => by simp [szAll]
  | w :: rows => by
    have := rows_szB rows
    simp only [List.map_cons, szAll, Row.dat, szD, List.length_cons]
    omega
theorem lit_sm {n : Int} (h : n.natAbs < 2 ^ 140) : Sm (.int n) := h
theorem shS_sm (b : Bool) : smStr (shS b) = true := by cases b <;> decide +kernel
theorem cmpS_sm (b : Bool) : smStr (cmpS b) = true := by cases b <;> decide +kernel
theorem lgS_sm (b : Bool) : smStr (lgS b) = true := by cases b <;> decide +kernel
theorem boS_sm (o : Bo) : smStr o.s = true := by cases o <;> decide +kernel
theorem nd_smB : ∀ {nd : Nd}, nd.wf → (∀ x ∈ nd.vars, smStr x = true) → Sm nd.dat ∧ szD nd.dat ≤ 4 * nd.size
  | .var x, _, h => ⟨⟨sm_str (by decide +kernel), sm_str (h x (List.mem_cons_self ..)), trivial⟩, by simp [Nd.dat, szD, szAll, Nd.size]⟩
  | .lit n s, w, _ => ⟨⟨sm_str (by decide +kernel), lit_sm (by have h1 : 0 ≤ n := w.1; have h2 : n < 2 ^ 136 := w.2.1; omega), sm_str (suf_sm w.2.2), trivial⟩, by simp [Nd.dat, szD, szAll, Nd.size]⟩
  | .cast k e, w, h => by
    obtain ⟨a, b⟩ := nd_smB (nd := e) w.2 h
    exact ⟨⟨sm_str (by decide +kernel), sm_str (kd_sm k), a, trivial⟩, by simp only [Nd.dat, szD, szAll, Nd.size]; omega⟩
  | .neg e, w, h => by
    obtain ⟨a, b⟩ := nd_smB (nd := e) w.2 h
    exact ⟨⟨sm_str (by decide +kernel), a, trivial⟩, by simp only [Nd.dat, szD, szAll, Nd.size]; omega⟩
  | .bin o e f, w, h => by
    obtain ⟨a, b⟩ := nd_smB (nd := e) w.2.2.1 fun x hx => h x (List.mem_append_left _ hx)
    obtain ⟨c, d⟩ := nd_smB (nd := f) w.2.2.2 fun x hx => h x (List.mem_append_right _ hx)
    exact ⟨⟨sm_str (boS_sm o), a, c, trivial⟩, by simp only [Nd.dat, szD, szAll, Nd.size]; omega⟩
  | .sh o e k, w, h => by
    obtain ⟨a, b⟩ := nd_smB (nd := e) w.2.1 h
    have k0 : 0 ≤ k := w.2.2.1
    have k1 : k < 1000 := w.2.2.2
    exact ⟨⟨sm_str (shS_sm o), a, lit_sm (by omega), trivial⟩, by simp only [Nd.dat, szD, szAll, Nd.size]; omega⟩
  | .ite c e f, w, h => by
    obtain ⟨a, b⟩ := nd_smB (nd := c) w.2.2.2.1 fun x hx => h x (List.mem_append_left _ hx)
    obtain ⟨a1, b1⟩ := nd_smB (nd := e) w.2.2.2.2.1 fun x hx => h x (List.mem_append_right _ (List.mem_append_left _ hx))
    obtain ⟨a2, b2⟩ := nd_smB (nd := f) w.2.2.2.2.2 fun x hx => h x (List.mem_append_right _ (List.mem_append_right _ hx))
    exact ⟨⟨sm_str (by decide +kernel), a, a1, a2, trivial⟩, by simp only [Nd.dat, szD, szAll, Nd.size]; omega⟩
  | .cmp o e f, w, h => by
    obtain ⟨a, b⟩ := nd_smB (nd := e) w.2.2.1 fun x hx => h x (List.mem_append_left _ hx)
    obtain ⟨c, d⟩ := nd_smB (nd := f) w.2.2.2 fun x hx => h x (List.mem_append_right _ hx)
    exact ⟨⟨sm_str (cmpS_sm o), a, c, trivial⟩, by simp only [Nd.dat, szD, szAll, Nd.size]; omega⟩
  | .nt c, w, h => by
    obtain ⟨a, b⟩ := nd_smB (nd := c) w.2 h
    exact ⟨⟨sm_str (by decide +kernel), a, trivial⟩, by simp only [Nd.dat, szD, szAll, Nd.size]; omega⟩
  | .lg o e f, w, h => by
    obtain ⟨a, b⟩ := nd_smB (nd := e) w.2.2.1 fun x hx => h x (List.mem_append_left _ hx)
    obtain ⟨c, d⟩ := nd_smB (nd := f) w.2.2.2 fun x hx => h x (List.mem_append_right _ hx)
    exact ⟨⟨sm_str (lgS_sm o), a, c, trivial⟩, by simp only [Nd.dat, szD, szAll, Nd.size]; omega⟩
/-! ## what k14 and its like keep and tell -/
def keptL (rows : List Row) (nd : Nd) (L : List Gv) : List PyData := [.list (rows.map Row.dat), nd.dat, .dict ((gvL L).map kvD)]
theorem gv_short : ∀ {L : List Gv}, (∀ y ∈ L, smStr y.1.name = true) → (∀ y ∈ L, y.2.natAbs < 2 ^ 136) → PyData.leavesShortKv 141 ((gvL L).map kvD) = true ∧ PyData.bulkKv ((gvL L).map kvD) ≤ 32 * L.length ∧ ShBKv ((gvL L).map kvD) ∧ PyData.depthKv ((gvL L).map kvD) = 0
  | [], _, _ => ⟨by simp [gvL, PyData.leavesShortKv], by simp [gvL, PyData.bulkKv], trivial, by simp [gvL, PyData.depthKv]⟩
  | y :: L, h, k => by
    obtain ⟨a, b, c, d⟩ := gv_short (L := L) (fun z hz => h z (List.mem_cons_of_mem _ hz)) fun z hz => k z (List.mem_cons_of_mem _ hz)
    have h1 := sm_str (h y (List.mem_cons_self ..))
    have h2 : Sm (.int y.2) := lit_sm (by have := k y (List.mem_cons_self ..); omega)
    have s1 := (sm_all _ h1).2.2.1
    have s2 := (sm_all _ h2).2.2.1
    have b1 := sm_bulk _ h1
    have b2 := sm_bulk _ h2
    unfold gvL at a b c d ⊢
    refine ⟨?_, ?_, ⟨trivial, sm_shB _ h2, c⟩, ?_⟩
    · simp only [List.map_cons, PyData.leavesShortKv, kvD, keyD, intD, s1, s2, Bool.and_true, Bool.true_and]
      exact a
    · simp only [List.map_cons, PyData.bulkKv, kvD, keyD, intD, List.length_cons, szD, PyData.bulk] at b1 b2 ⊢
      omega
    · simp only [List.map_cons, PyData.depthKv, kvD, keyD, intD, PyData.depth]
      omega
theorem kept_ok {rows : List Row} {nd : Nd} {L : List Gv} (hn : ∀ w ∈ rows, smStr w.name = true) (hf : ∀ w ∈ rows, w.Fit) (hr : rows.length ≤ 8) (hw : nd.wf) (hv : ∀ x ∈ nd.vars, smStr x = true) (hs : nd.size ≤ 30) (h1 : ∀ y ∈ L, smStr y.1.name = true) (h2 : ∀ y ∈ L, y.2.natAbs < 2 ^ 136) (hl : L.length ≤ 8) :
    ShBAll (keptL rows nd L) ∧ (PyData.shown (.list (keptL rows nd L))).length ≤ sizeLine ∧ PyData.depthAll (keptL rows nd L) ≤ 60 := by
  obtain ⟨a, b, c, d⟩ := gv_short h1 h2
  obtain ⟨n1, n2⟩ := nd_smB hw hv
  have r1 : Sm (.list (rows.map Row.dat)) := rows_sm hn hf
  have r2 := rows_szB rows
  have d1 := rows_dat_depth rows
  have d2 := nd_depth nd
  refine ⟨⟨sm_shB _ r1, sm_shB _ n1, c, trivial⟩, ?_, ?_⟩
  · have z := PyData.shown_le_bulk 141 (by decide) (.list (keptL rows nd L)) (by
      simp only [keptL, PyData.leavesShort, PyData.leavesShortAll, a, (sm_all _ n1).2.2.1, Bool.and_true, Bool.true_and]
      have := (sm_all _ r1).2.2.1
      simp only [PyData.leavesShort] at this
      exact this)
    have b1 := sm_bulk _ r1
    have b2 := sm_bulk _ n1
    have z2 : (PyData.list (keptL rows nd L)).bulk ≤ 10000 := by
      simp only [keptL, PyData.bulk, PyData.bulkAll, szD] at b1 b2 ⊢
      omega
    have := sizeLine_eq
    omega
  · simp only [keptL, PyData.depthAll, PyData.depth]
    omega
def exD : V → PyData
  | .int i => .int i
  | .bl b => .bool b
  | _ => .none
theorem ex_ok {g : Str → Int} {nd : Nd} (hg : ∀ x, (g x).natAbs < 2 ^ 136) (hw : nd.wf) (hs : nd.sb ≤ 3328) : ∀ K H, Dp K H (exV g nd) (exD (exV g nd)) := by
  intro K H
  unfold exV
  split
  · exact .int _
  · exact .bl _
theorem told_ok {g : Str → Int} {nd : Nd} (hg : ∀ x, (g x).natAbs < 2 ^ 136) (hw : nd.wf) (hs : nd.sb ≤ 3328) : ShBAll [exD (exV g nd), exD (exV g nd), exD (exV g nd)] ∧ (PyData.shown (.list [exD (exV g nd), exD (exV g nd), exD (exV g nd)])).length ≤ sizeLine ∧ PyData.depthAll [exD (exV g nd), exD (exV g nd), exD (exV g nd)] ≤ 60 := by
  have z0 := sizeLine_eq
  unfold exV
  split
  · have hb := big_of (num_sb hg hw) hs
    have hc := big_43 hb
    have hl := int_text_length_le10 (k := 1002) (by decide) hb
    have hl2 : (PyData.shown (.int (nd.num g))).length ≤ 1003 := by
      simp only [PyData.shown]
      show (Str.ofString (toString (nd.num g))).length ≤ 1003
      rw [PySem.ofString_length]
      exact hl
    refine ⟨⟨hc, hc, hc, trivial⟩, ?_, by simp [exD, PyData.depthAll, PyData.depth]⟩
    have z := PyData.shown_le_bulk 1003 (by decide) (.list [.int (nd.num g), .int (nd.num g), .int (nd.num g)]) (by simp only [PyData.leavesShort, PyData.leavesShortAll, decide_eq_true hl2, Bool.and_true])
    have z2 : (PyData.list [.int (nd.num g), .int (nd.num g), .int (nd.num g)]).bulk = 3 := by simp [PyData.bulk, PyData.bulkAll]
    rw [z2] at z
    show (PyData.shown (.list [.int (nd.num g), .int (nd.num g), .int (nd.num g)])).length ≤ _
    omega
  · refine ⟨⟨trivial, trivial, trivial, trivial⟩, ?_, by simp [exD, PyData.depthAll, PyData.depth]⟩
    have z := PyData.shown_le_bulk 1003 (by decide) (.list [.bool (nd.tru g), .bool (nd.tru g), .bool (nd.tru g)]) (by simp [PyData.leavesShort, PyData.leavesShortAll])
    have z2 : (PyData.list [.bool (nd.tru g), .bool (nd.tru g), .bool (nd.tru g)]).bulk = 3 := by simp [PyData.bulk, PyData.bulkAll]
    rw [z2] at z
    show (PyData.shown (.list [.bool (nd.tru g), .bool (nd.tru g), .bool (nd.tru g)])).length ≤ _
    omega
section
variable {K : PySem.W.Frag} {σ : L2.St} {H : Hp} {xs : List V} {ds : List PyData}
theorem ev_reprI {ta : TE} (ha : EvL ta σ H xs) (hd : It1s K H xs ds) (hne : xs ≠ []) (h : ShBAll ds ∧ (PyData.shown (.list ds)).length ≤ sizeLine ∧ PyData.depthAll ds ≤ 60) : Ev (tCB (rReprI K) (tCons ta tNil)) σ H (.str (PyData.shown (.list ds))) := fun H1 e Q q =>
  ha H1 e _ fun p H2 _ e2 h2 => ⟨p, xs, ds, rfl, sq_of h2, hne, hd.ex (e.trans e2), h.1, h.2.1, h.2.2, q H2 e2⟩
theorem ev_reprIV {ta : TE} {p : Addr} (ha : Ev ta σ H (.ref p)) (hp : H p = some (.lst xs)) (hd : It1s K H xs ds) (hne : xs ≠ []) (h : ShBAll ds ∧ (PyData.shown (.list ds)).length ≤ sizeLine ∧ PyData.depthAll ds ≤ 60) : Ev (tCB (rReprI K) (tCons ta tNil)) σ H (.str (PyData.shown (.list ds))) := fun H1 e Q q =>
  ha H1 e _ fun H2 e2 => ⟨p, xs, ds, rfl, sq_of (e2 _ _ (e _ _ hp)), hne, hd.ex (e.trans e2), h.1, h.2.1, h.2.2, q H2 e2⟩
end
theorem kept_it {K : PySem.W.Frag} {H : Hp} {l p d : Addr} {rows : List Row} {nd : Nd} {L : List Gv} (hV : Dp K H (.ref l) (.list (rows.map Row.dat))) (hT : TreeAt H p nd) (hd : H d = some (.dK (gvL L))) : It1s K H [.ref l, .ref p, .ref d] (keptL rows nd L) :=
  ⟨.inl hV, .inl hT.dp, .inr ⟨d, gvL L, rfl, hd, rfl, fun kv hk => by
    unfold gvL at hk
    obtain ⟨y, _, rfl⟩ := List.mem_map.mp hk
    exact ⟨_, rfl⟩⟩, trivial⟩
theorem qif_raw {t : TT} {u v tz : TS} {D : Ends} {σ : L2.St} {H : Hp} (h : t σ H fun b H1 => if b = true then u { D with nx := tz D } σ H1 else v { D with nx := tz D } σ H1) : tSeq (tIfS t u v) tz D σ H := h
theorem far_math {K : PySem.W.Frag} {H : Hp} {lf p d : Addr} {i B : Int} {nd : Nd} (hB : B.natAbs < 2 ^ 136) (h0 : -B ≤ i) (h1 : i ≤ B) (hV : VarsAt H lf [⟨"x", .ch, -B, B⟩]) (hT : TreeAt H p nd) (hw : nd.wf) (hs : nd.size ≤ 30) (hv : nd.vars = [("x" : Str)]) (hd : H d = some (.dK [(.inr "x", .int i)])) : preMath K [.ref lf, .ref p, .ref d] H (exV (fun _ => i) nd) := by
  have hi : i.natAbs < 2 ^ 140 := by omega
  have hn1 : ([("x" : Str)]).Nodup := List.nodup_cons.mpr ⟨List.not_mem_nil, List.nodup_nil⟩
  refine ⟨lf, p, d, _, nd, _, fun _ => i, rfl, hV, by show 1 ≤ 100; decide, ?_, hn1, ?_, hT, hw, hs, ?_, ?_, hd, ?_, fun _ => hi, rfl⟩
  · intro w hw
    rw [List.mem_singleton.mp hw]
    show nameOk "x" = true
    decide +kernel
  · intro w hw
    rw [List.mem_singleton.mp hw]
    show -B ≤ B
    omega
  · intro y hy
    rw [hv] at hy
    exact hy
  · rw [hv]
    exact hn1
  · intro w hw
    rw [List.mem_singleton.mp hw]
    exact ⟨rfl, h0, h1⟩
theorem no_le {K : PySem.W.Frag} {vs : List V} {H : Hp} {Q : VK} {E : XK} (h : PV (preLE K 0) vs H Q E) : False := by
  obtain ⟨_, ⟨_, _, _, _, nd, _, _, _, h0, _⟩, _⟩ := h
  cases nd <;> simp only [Nd.size] at h0 <;> omega
end Cf

set_option exponentiation.threshold 20000
namespace Cf
open PySem PySem.Spec PyProof.Rows L2 Evl PySem.W
/-! ## choosing -/
def ch : Nat → Nat → Nat
  | _, 0 => 1
  | 0, _ + 1 => 0
  | n + 1, k + 1 => ch n k + ch n (k + 1)
theorem ch_zero (n : Nat) : ch n 0 = 1 := by cases n <;> rfl
theorem ch_succ (n k : Nat) : ch (n + 1) (k + 1) = ch n k + ch n (k + 1) := rfl
theorem ch_gt : ∀ {n k : Nat}, n < k → ch n k = 0
  | 0, 0, h => absurd h (by decide)
  | 0, k + 1, _ => rfl
  | n + 1, 0, h => absurd h (by omega)
  | n + 1, k + 1, h => by rw [ch_succ, ch_gt (by omega : n < k), ch_gt (by omega : n < k + 1)]
theorem ch_self : ∀ n : Nat, ch n n = 1
  | 0 => rfl
  | n + 1 => by rw [ch_succ, ch_self n, ch_gt (by omega : n < n + 1)]
theorem ch_symm : ∀ {n k : Nat}, k ≤ n → ch n k = ch n (n - k)
  | n, 0, _ => by rw [ch_zero, Nat.sub_zero, ch_self]
  | 0, k + 1, h => absurd h (by omega)
  | n + 1, k + 1, h => by
    by_cases e : k = n
    · subst e
      rw [ch_self, Nat.sub_self, ch_zero]
    · have h1 : n + 1 - (k + 1) = (n - k - 1) + 1 := by omega
      have h2 := ch_symm (n := n) (k := k) (by omega)
      have h3 := ch_symm (n := n) (k := k + 1) (by omega)
      have h4 : n - (k + 1) = n - k - 1 := by omega
      have h5 : n - k = n - k - 1 + 1 := by omega
      rw [h1, ch_succ, ch_succ, h2, h3, h4, ← h5, Nat.add_comm]
/-- the falling product from its front -/
theorem fp_front (n : Int) : ∀ k : Nat, Builtin.Math.fallingProduct (n + 1) (k + 1) = (n + 1) * Builtin.Math.fallingProduct n k
  | 0 => by rw [mc_fp_succ, mc_fp_zero, mc_fp_zero]; omega
  | k + 1 => by
    rw [mc_fp_succ, fp_front n k, mc_fp_succ, Int.mul_assoc]
    have : n + 1 - ((k + 1 : Nat) : Int) = n - (k : Nat) := by omega
    rw [this]
theorem fp_ch : ∀ (n k : Nat), k ≤ n → Builtin.Math.fallingProduct (n : Int) k = (ch n k : Int) * Builtin.Math.fallingProduct (k : Int) k
  | n, 0, _ => by rw [mc_fp_zero, mc_fp_zero, ch_zero]; rfl
  | 0, k + 1, h => absurd h (by omega)
  | n + 1, k + 1, h => by
    have e1 : ((n + 1 : Nat) : Int) = (n : Int) + 1 := rfl
    have e2 : ((k + 1 : Nat) : Int) = (k : Int) + 1 := rfl
    have h1 := fp_ch n k (by omega)
    have h3 : Builtin.Math.fallingProduct (n : Int) (k + 1) = (ch n (k + 1) : Int) * Builtin.Math.fallingProduct ((k + 1 : Nat) : Int) (k + 1) := by
      by_cases e : k + 1 ≤ n
      · exact fp_ch n (k + 1) e
      · have : n = k := by omega
        subst this
        rw [ch_gt (by omega : n < n + 1), mc_fp_succ]
        have : (n : Int) - (n : Nat) = 0 := by omega
        rw [this, Int.mul_zero]
        show (0 : Int) = ((0 : Nat) : Int) * _
        omega
    have h4 : Builtin.Math.fallingProduct ((k : Int) + 1) (k + 1) = ((k : Int) + 1) * Builtin.Math.fallingProduct (k : Int) k := fp_front k k
    rw [mc_fp_succ] at h3
    rw [e2, h4] at h3
    rw [e1, fp_front, e2, h4, ch_succ, Int.natCast_add, Int.add_mul (ch n k : Int), ← h3]
    have a1 : (ch n k : Int) * (((k : Int) + 1) * Builtin.Math.fallingProduct (k : Int) k) = ((k : Int) + 1) * Builtin.Math.fallingProduct (n : Int) k := by rw [h1, Int.mul_left_comm]
    rw [a1, Int.mul_comm (Builtin.Math.fallingProduct (n : Int) k), ← Int.add_mul]
    congr 1
    omega
theorem comb_ch {n k : Nat} (h : k ≤ n) : mcComb (n : Int) (k : Int) = (ch n k : Int) := by
  have hpos : ∀ m : Nat, Builtin.Math.fallingProduct (m : Int) m ≠ 0 := fun m => by
    have := mc_fp_pos (n := (m : Int)) m (Int.le_refl _)
    omega
  by_cases hm : k ≤ n - k
  · rw [mcComb_at (m := (k : Int)) (by omega) (by omega) (by omega)]
    rw [Int.toNat_natCast, fp_ch n k h]
    exact Int.mul_ediv_cancel _ (hpos k)
  · rw [mcComb_at (m := ((n - k : Nat) : Int)) (by omega) (by omega) (by omega)]
    rw [Int.toNat_natCast, fp_ch n (n - k) (by omega), ch_symm h]
    exact Int.mul_ediv_cancel _ (hpos _)
/-! ## sums over choices -/
/-- choices of k numbers from 0 on whose sum is at most x -/
def Fk (k : Nat) (x : Int) : Int := if 0 ≤ x then (ch (x.toNat + k) k : Int) else 0
theorem Fk_step (k : Nat) (x : Int) : Fk (k + 1) x - Fk (k + 1) (x - 1) = Fk k x := by
  unfold Fk
  by_cases h : 0 ≤ x
  · rw [if_pos h, if_pos h]
    by_cases h1 : 0 ≤ x - 1
    · rw [if_pos h1]
      obtain ⟨n, hn⟩ : ∃ n : Nat, x = (n : Int) + 1 := ⟨(x - 1).toNat, by omega⟩
      subst hn
      have e1 : ((n : Int) + 1).toNat = n + 1 := by omega
      have e2 : ((n : Int) + 1 - 1).toNat = n := by omega
      rw [e1, e2]
      have e3 : n + 1 + (k + 1) = (n + 1 + k) + 1 := by omega
      have e4 : n + (k + 1) = n + 1 + k := by omega
      rw [e3, ch_succ, e4]
      omega
    · rw [if_neg h1]
      have : x = 0 := by omega
      subst this
      show ((ch (0 + (k + 1)) (k + 1) : Nat) : Int) - 0 = ((ch (0 + k) k : Nat) : Int)
      rw [Nat.zero_add, Nat.zero_add, ch_self, ch_self]
      rfl
  · rw [if_neg h, if_neg h, if_neg (by omega)]
    rfl
abbrev PrI := Int × Int
/-- sum of f over lo .. lo + n - 1 -/
def sumN (f : Int → Int) (lo : Int) : Nat → Int
  | 0 => 0
  | n + 1 => sumN f lo n + f (lo + (n : Nat))
/-- with one term more -/
def Tr (p : PrI) (f : Int → Int) : Int → Int := fun t => sumN (fun a => f (t + a)) p.1 (p.2 - p.1 + 1).toNat
/-- over all choices of the terms -/
def Trs : List PrI → (Int → Int) → Int → Int
  | [], f => f
  | p :: r, f => Tr p (Trs r f)
def Gs : List PrI → (Int → Int) → Int → Int
  | [], f => f
  | p :: r, f => fun x => Gs r f x - Gs r f (x - (p.2 - p.1 + 1))
def lowS (r : List PrI) : Int := (r.map (·.1)).sum
theorem Gs_step (r : List PrI) (k : Nat) : ∀ y : Int, Gs r (Fk (k + 1)) y - Gs r (Fk (k + 1)) (y - 1) = Gs r (Fk k) y := by
  induction r with
  | nil => exact Fk_step k
  | cons p r ih =>
    intro y
    have h1 := ih y
    have h2 := ih (y - (p.2 - p.1 + 1))
    have e : y - (p.2 - p.1 + 1) - 1 = y - 1 - (p.2 - p.1 + 1) := by omega
    rw [e] at h2
    show Gs r (Fk (k + 1)) y - Gs r (Fk (k + 1)) (y - (p.2 - p.1 + 1)) - (Gs r (Fk (k + 1)) (y - 1) - Gs r (Fk (k + 1)) (y - 1 - (p.2 - p.1 + 1))) = Gs r (Fk k) y - Gs r (Fk k) (y - (p.2 - p.1 + 1))
    omega
theorem sumN_gs (r : List PrI) (k : Nat) (z lo : Int) : ∀ n : Nat, sumN (fun a => Gs r (Fk k) (z - a)) lo n = Gs r (Fk (k + 1)) (z - lo) - Gs r (Fk (k + 1)) (z - lo - (n : Nat))
  | 0 => by
    show (0 : Int) = _
    have : z - lo - ((0 : Nat) : Int) = z - lo := by omega
    rw [this]
    omega
  | n + 1 => by
    have h := Gs_step r k (z - lo - (n : Nat))
    have e : z - lo - (n : Nat) - 1 = z - lo - ((n + 1 : Nat) : Int) := by omega
    rw [e] at h
    have e2 : z - (lo + (n : Nat)) = z - lo - (n : Nat) := by omega
    show sumN (fun a => Gs r (Fk k) (z - a)) lo n + Gs r (Fk k) (z - (lo + (n : Nat))) = _
    rw [sumN_gs r k z lo n, e2]
    omega
/-- how many choices have a sum of at most m -/
theorem ways_eq (m : Int) : ∀ (r : List PrI), (∀ p ∈ r, p.1 ≤ p.2) → ∀ t, Trs r (fun t => Fk 0 (m - t)) t = Gs r (Fk r.length) (m - lowS r - t)
  | [], _, t => by
    show Fk 0 (m - t) = Fk 0 (m - 0 - t)
    congr 1
    omega
  | p :: r, h, t => by
    have hp := h p (List.mem_cons_self ..)
    have ih := ways_eq m r fun q hq => h q (List.mem_cons_of_mem _ hq)
    show sumN (fun a => Trs r (fun t => Fk 0 (m - t)) (t + a)) p.1 (p.2 - p.1 + 1).toNat = _
    have e1 : (fun a => Trs r (fun t => Fk 0 (m - t)) (t + a)) = fun a => Gs r (Fk r.length) (m - lowS r - t - a) := by
      funext a
      rw [ih]
      congr 1
      omega
    rw [e1, sumN_gs]
    have e2 : ((p.2 - p.1 + 1).toNat : Int) = p.2 - p.1 + 1 := by omega
    have e3 : lowS (p :: r) = p.1 + lowS r := by simp [lowS]
    rw [e2, e3]
    show _ = Gs r (Fk (r.length + 1)) (m - (p.1 + lowS r) - t) - Gs r (Fk (r.length + 1)) (m - (p.1 + lowS r) - t - (p.2 - p.1 + 1))
    have e4 : m - lowS r - t - p.1 = m - (p.1 + lowS r) - t := by omega
    rw [e4]
/-- the rooms, as the program lists them -/
def rooms : List PrI → List PrI → List PrI
  | acc, [] => acc
  | acc, p :: r => rooms (acc ++ acc.map fun x => (x.1 - (p.2 - p.1 + 1), -x.2)) r
def sumR (acc : List PrI) (f : Int → Int) : Int := (acc.map fun x => x.2 * f x.1).sum
theorem sumR_app (a b : List PrI) (f : Int → Int) : sumR (a ++ b) f = sumR a f + sumR b f := by
  unfold sumR
  rw [List.map_append, List.sum_append]
theorem sumR_sh (s : Int) (f : Int → Int) : ∀ a : List PrI, sumR (a ++ a.map fun x => (x.1 - s, -x.2)) f = sumR a fun x => f x - f (x - s) := by
  intro a
  rw [sumR_app]
  induction a with
  | nil => rfl
  | cons x a ih =>
    unfold sumR at ih ⊢
    simp only [List.map_cons, List.sum_cons] at ih ⊢
    have e1 : x.2 * (f x.1 - f (x.1 - s)) = x.2 * f x.1 - x.2 * f (x.1 - s) := Int.mul_sub ..
    have e2 : -x.2 * f (x.1 - s) = -(x.2 * f (x.1 - s)) := Int.neg_mul ..
    rw [e1, e2]
    omega
theorem sumR_rooms (f : Int → Int) : ∀ (r acc : List PrI), sumR (rooms acc r) f = sumR acc (Gs r f)
  | [], acc => rfl
  | p :: r, acc => by
    show sumR (rooms _ r) f = _
    rw [sumR_rooms f r, sumR_sh]
    rfl
end Cf

set_option exponentiation.threshold 20000
namespace Cf
open PySem PySem.Spec PyProof.Rows L2 Evl
/-! ## ways of sums, as the law counts them -/
def kdP (L : List PrI) : List (Key × V) := L.map fun x => (.inl x.1, .int x.2)
def keysP (L : List PrI) : List Int := L.map (·.1)
def getP (L : List PrI) (t : Int) : Option Int := (L.find? fun x => decide (x.1 = t)).map (·.2)
def putP (L : List PrI) (t w : Int) : List PrI := if (L.any fun x => decide (x.1 = t)) = true then L.map (fun x => if x.1 = t then (x.1, w) else x) else L ++ [(t, w)]
theorem valV_kdP (t : Int) : ∀ L : List PrI, valV (kdP L) (.inl t) = (getP L t).map V.int
  | [] => rfl
  | x :: L => by
    have ih := valV_kdP t L
    unfold kdP getP at ih ⊢
    simp only [List.map_cons, valV, List.find?_cons] at ih ⊢
    by_cases e : x.1 = t
    · simp [e]
    · have e2 : ¬ ((Sum.inl x.1 : Key) = Sum.inl t) := fun z => e (Sum.inl.inj z)
      simp only [e, e2, decide_false]
      exact ih
theorem putK_kdP (L : List PrI) (t w : Int) : putK (kdP L) (.inl t) (.int w) = kdP (putP L t w) := by
  have ha : ((kdP L).any fun kv => decide (kv.1 = Sum.inl t)) = L.any fun x => decide (x.1 = t) := by
    unfold kdP
    rw [List.any_map]
    congr 1
    funext x
    by_cases e : x.1 = t
    · simp [e]
    · have e2 : ¬ ((Sum.inl x.1 : Key) = Sum.inl t) := fun z => e (Sum.inl.inj z)
      simp [e, e2]
  unfold putK putP
  rw [ha]
  split
  · unfold kdP
    rw [List.map_map, List.map_map]
    apply List.map_congr_left
    intro x _
    by_cases e : x.1 = t
    · simp [e]
    · have e2 : ¬ ((Sum.inl x.1 : Key) = Sum.inl t) := fun z => e (Sum.inl.inj z)
      simp [e, e2]
  · unfold kdP
    rw [List.map_append]
    rfl
def tot (f : Int → Int) (L : List PrI) : Int := (L.map fun x => x.2 * f x.1).sum
theorem tot_cons (f : Int → Int) (x : PrI) (L : List PrI) : tot f (x :: L) = x.2 * f x.1 + tot f L := by simp [tot]
theorem tot_app (f : Int → Int) (a b : List PrI) : tot f (a ++ b) = tot f a + tot f b := by simp [tot, List.sum_append]
def addP (L : List PrI) (t w : Int) : List PrI := putP L t ((getP L t).getD 0 + w)
theorem any_iff {L : List PrI} {t : Int} : (L.any fun x => decide (x.1 = t)) = true ↔ t ∈ keysP L := by
  unfold keysP
  rw [List.any_eq_true, List.mem_map]
  constructor
  · rintro ⟨x, h, e⟩
    exact ⟨x, h, of_decide_eq_true e⟩
  · rintro ⟨x, h, e⟩
    exact ⟨x, h, decide_eq_true e⟩
theorem getP_none {L : List PrI} {t : Int} (h : t ∉ keysP L) : getP L t = none := by
  unfold getP
  rw [List.find?_eq_none.mpr]
  · rfl
  · intro x hx z
    exact h (List.mem_map.mpr ⟨x, hx, of_decide_eq_true z⟩)
theorem getP_mem : ∀ {L : List PrI} {x : PrI}, (keysP L).Nodup → x ∈ L → getP L x.1 = some x.2
  | y :: L, x, hn, hx => by
    unfold keysP at hn
    rw [List.map_cons, List.nodup_cons] at hn
    unfold getP
    rw [List.find?_cons]
    rcases List.mem_cons.mp hx with rfl | hx
    · simp
    · have : ¬ y.1 = x.1 := fun z => hn.1 (by rw [z]; exact List.mem_map.mpr ⟨x, hx, rfl⟩)
      simp only [this, decide_false]
      exact getP_mem hn.2 hx
/-- what is put at t where t stands -/
theorem tot_map (f : Int → Int) (t v : Int) : ∀ {L : List PrI}, (keysP L).Nodup → t ∈ keysP L → tot f (L.map fun x => if x.1 = t then (x.1, v) else x) = tot f L + (v - (getP L t).getD 0) * f t
  | x :: L, hn, ht => by
    unfold keysP at hn ht
    rw [List.map_cons, List.nodup_cons] at hn
    rw [List.map_cons] at ht
    rw [List.map_cons, tot_cons, tot_cons]
    by_cases e : x.1 = t
    · have hg : getP (x :: L) t = some x.2 := by unfold getP; rw [List.find?_cons]; simp [e]
      have hm : (L.map fun y => if y.1 = t then (y.1, v) else y) = L := by
        have : (L.map fun y => if y.1 = t then (y.1, v) else y) = L.map id := List.map_congr_left fun y hy => by
          have : ¬ y.1 = t := fun z => hn.1 (by rw [e, ← z]; exact List.mem_map.mpr ⟨y, hy, rfl⟩)
          simp [this]
        rw [this, List.map_id]
      rw [hg, hm, if_pos e, Option.getD_some]
      show v * f x.1 + tot f L = x.2 * f x.1 + tot f L + (v - x.2) * f t
      rw [e, Int.sub_mul]
      omega
    · have hg : getP (x :: L) t = getP L t := by unfold getP; rw [List.find?_cons]; simp [e]
      have ht2 : t ∈ keysP L := by
        rcases List.mem_cons.mp ht with z | z
        · exact absurd z.symm e
        · exact z
      rw [hg, if_neg e, tot_map f t v hn.2 ht2]
      omega
theorem keysP_map (L : List PrI) (t v : Int) : keysP (L.map fun x => if x.1 = t then (x.1, v) else x) = keysP L := by
  unfold keysP
  rw [List.map_map]
  apply List.map_congr_left
  intro x _
  by_cases e : x.1 = t <;> simp [e]
theorem addP_facts (f : Int → Int) (t w : Int) {L : List PrI} (hn : (keysP L).Nodup) : tot f (addP L t w) = tot f L + w * f t ∧ (keysP (addP L t w)).Nodup ∧ (addP L t w).length ≤ L.length + 1 := by
  unfold addP putP
  by_cases h : t ∈ keysP L
  · rw [if_pos (any_iff.mpr h)]
    refine ⟨?_, by rw [keysP_map]; exact hn, by rw [List.length_map]; omega⟩
    rw [tot_map f t _ hn h]
    have : (getP L t).getD 0 + w - (getP L t).getD 0 = w := by omega
    rw [this]
  · rw [if_neg (fun z => h (any_iff.mp z)), getP_none h]
    refine ⟨?_, ?_, by rw [List.length_append]; exact Nat.le_refl _⟩
    · rw [tot_app]
      show _ + ((0 + w) * f t + 0) = _
      rw [Int.zero_add, Int.add_zero]
    · unfold keysP
      rw [List.map_append]
      exact List.nodup_append.mpr ⟨hn, List.nodup_cons.mpr ⟨List.not_mem_nil, List.nodup_nil⟩, fun a ha b hb z => h (by
        have : b = t := List.mem_singleton.mp hb
        rw [← this, ← z]
        exact ha)⟩
/-- one total, with each number of a range -/
def addN (L : List PrI) (t w lo : Int) : Nat → List PrI
  | 0 => L
  | n + 1 => addP (addN L t w lo n) (t + (lo + (n : Nat))) w
theorem addN_facts (f : Int → Int) (t w lo : Int) {L : List PrI} (hn : (keysP L).Nodup) : ∀ n : Nat, tot f (addN L t w lo n) = tot f L + w * sumN (fun a => f (t + a)) lo n ∧ (keysP (addN L t w lo n)).Nodup ∧ (addN L t w lo n).length ≤ L.length + n
  | 0 => ⟨by show tot f L = tot f L + w * 0; omega, hn, Nat.le_refl _⟩
  | n + 1 => by
    obtain ⟨a, b, c⟩ := addN_facts f t w lo hn n
    obtain ⟨a2, b2, c2⟩ := addP_facts f (t + (lo + (n : Nat))) w b
    refine ⟨?_, b2, by show (addP _ _ _).length ≤ _; omega⟩
    show tot f (addP _ _ _) = _
    rw [a2, a]
    show _ = tot f L + w * (sumN (fun a => f (t + a)) lo n + f (t + (lo + (n : Nat))))
    rw [Int.mul_add]
    omega
def szP (p : PrI) : Nat := (p.2 - p.1 + 1).toNat
/-- all totals -/
def addA (p : PrI) : List PrI → List PrI → List PrI
  | L, [] => L
  | L, x :: F => addA p (addN L x.1 x.2 p.1 (szP p)) F
theorem addA_facts (f : Int → Int) (p : PrI) : ∀ (F : List PrI) {L : List PrI}, (keysP L).Nodup → tot f (addA p L F) = tot f L + tot (Tr p f) F ∧ (keysP (addA p L F)).Nodup ∧ (addA p L F).length ≤ L.length + F.length * szP p
  | [], L, hn => ⟨by show tot f L = tot f L + 0; omega, hn, by show L.length ≤ _; omega⟩
  | x :: F, L, hn => by
    obtain ⟨a, b, c⟩ := addN_facts f x.1 x.2 p.1 hn (szP p)
    obtain ⟨a2, b2, c2⟩ := addA_facts f p F b
    refine ⟨?_, b2, ?_⟩
    · show tot f (addA p _ F) = _
      rw [a2, a, tot_cons]
      show tot f L + x.2 * sumN (fun a => f (x.1 + a)) p.1 (szP p) + tot (Tr p f) F = tot f L + (x.2 * sumN (fun a => f (x.1 + a)) p.1 (szP p) + tot (Tr p f) F)
      omega
    · show (addA p _ F).length ≤ _
      rw [List.length_cons, Nat.add_mul, Nat.one_mul]
      omega
theorem addA_snoc (p : PrI) (x : PrI) : ∀ (F L : List PrI), addA p L (F ++ [x]) = addN (addA p L F) x.1 x.2 p.1 (szP p)
  | [], L => rfl
  | y :: F, L => addA_snoc p x F _
/-- the totals behind all rows -/
def distP : List PrI → List PrI → List PrI
  | F, [] => F
  | F, p :: r => distP (addA p [] F) r
theorem distP_snoc (p : PrI) : ∀ (r F : List PrI), distP F (r ++ [p]) = addA p [] (distP F r)
  | [], F => rfl
  | q :: r, F => distP_snoc p r _
def whP (r : List PrI) : Nat := (r.map szP).foldr (· * ·) 1
theorem distP_facts (f : Int → Int) : ∀ (r : List PrI) {F : List PrI}, (keysP F).Nodup → tot f (distP F r) = tot (Trs r f) F ∧ (keysP (distP F r)).Nodup ∧ (distP F r).length ≤ F.length * whP r
  | [], F, hn => ⟨rfl, hn, by show F.length ≤ F.length * 1; omega⟩
  | p :: r, F, hn => by
    obtain ⟨a, b, c⟩ := addA_facts (Trs r f) p F (L := []) List.nodup_nil
    obtain ⟨a2, b2, c2⟩ := distP_facts f r b
    refine ⟨?_, b2, ?_⟩
    · show tot f (distP _ r) = _
      rw [a2, a]
      show 0 + tot (Tr p (Trs r f)) F = tot (Tr p (Trs r f)) F
      omega
    · show (distP _ r).length ≤ F.length * (szP p * whP r)
      have c3 : (addA p [] F).length ≤ F.length * szP p := by
        have : ([] : List PrI).length = 0 := rfl
        omega
      exact Nat.le_trans c2 (by rw [← Nat.mul_assoc]; exact Nat.mul_le_mul_right _ c3)
def d0 : List PrI := [(0, 1)]
theorem d0_nd : (keysP d0).Nodup := List.nodup_cons.mpr ⟨List.not_mem_nil, List.nodup_nil⟩
theorem tot_dist (f : Int → Int) (r : List PrI) : tot f (distP d0 r) = Trs r f 0 := by
  rw [(distP_facts f r d0_nd).1]
  show 1 * Trs r f 0 + 0 = _
  omega
/-! ### how many choices lie beyond -/
theorem sumN_add (f g : Int → Int) (lo : Int) : ∀ n, sumN (fun a => f a + g a) lo n = sumN f lo n + sumN g lo n
  | 0 => rfl
  | n + 1 => by
    show sumN (fun a => f a + g a) lo n + (f _ + g _) = _
    rw [sumN_add f g lo n]
    show _ = sumN f lo n + f (lo + (n : Nat)) + (sumN g lo n + g (lo + (n : Nat)))
    omega
theorem Trs_add (f g : Int → Int) : ∀ (r : List PrI) (t : Int), Trs r (fun t => f t + g t) t = Trs r f t + Trs r g t
  | [], _ => rfl
  | p :: r, t => by
    show sumN (fun a => Trs r (fun t => f t + g t) (t + a)) _ _ = _
    have : (fun a => Trs r (fun t => f t + g t) (t + a)) = fun a => (fun a => Trs r f (t + a)) a + (fun a => Trs r g (t + a)) a := funext fun a => Trs_add f g r (t + a)
    rw [this, sumN_add]
    rfl
theorem sumN_le (f g : Int → Int) (lo : Int) (h : ∀ a, f a ≤ g a) : ∀ n, sumN f lo n ≤ sumN g lo n
  | 0 => Int.le_refl _
  | n + 1 => by
    have a := sumN_le f g lo h n
    have b := h (lo + (n : Nat))
    show sumN f lo n + f _ ≤ sumN g lo n + g _
    omega
theorem Trs_le (f g : Int → Int) (h : ∀ a, f a ≤ g a) : ∀ (r : List PrI) (t : Int), Trs r f t ≤ Trs r g t
  | [], t => h t
  | p :: r, t => sumN_le _ _ _ (fun a => Trs_le f g h r (t + a)) _
theorem sumN_const (c lo : Int) : ∀ n : Nat, sumN (fun _ => c) lo n = (n : Int) * c
  | 0 => by show (0 : Int) = ((0 : Nat) : Int) * c; rw [Int.natCast_zero, Int.zero_mul]
  | n + 1 => by
    show sumN (fun _ => c) lo n + c = _
    rw [sumN_const c lo n, Int.natCast_add, Int.add_mul]
    show _ = _ + 1 * c
    omega
theorem Trs_const (c : Int) : ∀ (r : List PrI) (t : Int), Trs r (fun _ => c) t = (whP r : Int) * c
  | [], _ => by show c = ((1 : Nat) : Int) * c; omega
  | p :: r, t => by
    show sumN (fun a => Trs r (fun _ => c) (t + a)) p.1 (szP p) = ((szP p * whP r : Nat) : Int) * c
    have : (fun a => Trs r (fun _ => c) (t + a)) = fun _ => (whP r : Int) * c := funext fun a => Trs_const c r (t + a)
    rw [this, sumN_const, Int.natCast_mul, Int.mul_assoc]
theorem Fk_zero (x : Int) : Fk 0 x = if 0 ≤ x then 1 else 0 := by
  unfold Fk
  split
  · rw [Nat.add_zero, ch_zero]
    rfl
  · rfl
def outP (lo hi : Int) (t : Int) : Int := if lo ≤ t ∧ t ≤ hi then 0 else 1
def beyP (lo hi : Int) (r : List PrI) : Int := (whP r : Int) - Gs r (Fk r.length) (hi - lowS r) + Gs r (Fk r.length) (lo - 1 - lowS r)
/-- the law's number is the program's -/
theorem bey_eq (lo hi : Int) (h : lo ≤ hi + 1) (r : List PrI) (hr : ∀ p ∈ r, p.1 ≤ p.2) : tot (outP lo hi) (distP d0 r) = beyP lo hi r := by
  rw [tot_dist]
  have e : ∀ t, outP lo hi t + Fk 0 (hi - t) = 1 + Fk 0 (lo - 1 - t) := fun t => by
    rw [Fk_zero, Fk_zero]
    unfold outP
    split <;> split <;> split <;> omega
  have e1 : (fun t => outP lo hi t + Fk 0 (hi - t)) = fun t => (fun _ => 1) t + (fun t => Fk 0 (lo - 1 - t)) t := funext e
  have e2 := Trs_add (outP lo hi) (fun t => Fk 0 (hi - t)) r 0
  have e3 := Trs_add (fun _ => 1) (fun t => Fk 0 (lo - 1 - t)) r 0
  rw [e1] at e2
  rw [e3, Trs_const, ways_eq _ r hr, ways_eq _ r hr] at e2
  unfold beyP
  have a1 : hi - lowS r - 0 = hi - lowS r := by omega
  have a2 : lo - 1 - lowS r - 0 = lo - 1 - lowS r := by omega
  rw [a1, a2] at e2
  omega
theorem bey_small (lo hi : Int) (h : lo ≤ hi + 1) (r : List PrI) (hr : ∀ p ∈ r, p.1 ≤ p.2) : 0 ≤ beyP lo hi r ∧ beyP lo hi r ≤ whP r := by
  rw [← bey_eq lo hi h r hr, tot_dist]
  have a := Trs_le (fun _ => 0) (outP lo hi) (fun a => by unfold outP; split <;> omega) r 0
  have b := Trs_le (outP lo hi) (fun _ => 1) (fun a => by unfold outP; split <;> omega) r 0
  rw [Trs_const] at a b
  omega
end Cf

set_option exponentiation.threshold 20000
namespace Cf
open PySem PySem.Spec PyProof.Rows L2 Evl PySem.W
/-! ## math.comb -/
theorem fp_absW {n : Int} (h0 : 0 ≤ n) (hn : n < 2 ^ 140) (k : Nat) : (k : Int) ≤ n → (Builtin.Math.fallingProduct n k).natAbs ≤ 2 ^ (140 * k) := by
  induction k with
  | zero => intro _; show (1 : Int).natAbs ≤ 2 ^ (140 * 0); decide
  | succ k ih =>
    intro h
    rw [mc_fp_succ, Int.natAbs_mul, show 140 * (k + 1) = 140 * k + 140 from rfl, Nat.pow_add]
    exact Nat.mul_le_mul (ih (by omega)) (by omega)
theorem comb_abs {n k : Nat} (h : k ≤ n) (hn : (n : Int) < 2 ^ 140) (hk : k ≤ 9) : (mcComb (n : Int) k).natAbs ≤ 2 ^ 1260 := by
  have hm : ((min (k : Int) (n - k)).toNat : Int) ≤ n := by omega
  have a := fp_absW (n := (n : Int)) (by omega) hn (min (k : Int) (n - k)).toNat hm
  have h1 := mc_fp_pos (n := (n : Int)) (min (k : Int) (n - k)).toNat hm
  have h2 := mc_fp_pos (n := min (k : Int) (n - k)) (min (k : Int) (n - k)).toNat (by omega)
  have hq : mcComb (n : Int) k = _ := mcComb_at (by omega) (by omega) rfl
  have hlo : 1 ≤ mcComb (n : Int) k := mcComb_pos (by omega) (by omega)
  have hle : mcComb (n : Int) k ≤ Builtin.Math.fallingProduct n (min (k : Int) (n - k)).toNat := by
    rw [hq]
    exact Int.ediv_le_self _ (by omega)
  have hab : (mcComb (n : Int) k).natAbs ≤ (Builtin.Math.fallingProduct (n : Int) (min (k : Int) (n - k)).toNat).natAbs := by omega
  exact Nat.le_trans hab (Nat.le_trans a (Nat.pow_le_pow_right (by decide) (by omega)))
theorem comb_gives {n k : Nat} (t u : Tok) (h : k ≤ n) (hn : (n : Int) < 2 ^ 140) (hk : k ≤ 9) : Gives (Builtin.«math.comb» ⟨[.int n t, .int k u], []⟩) (.int (ch n k : Int)) := by
  rw [← comb_ch h]
  have hq : mcComb (n : Int) k = _ := mcComb_at (by omega) (by omega) rfl
  have hz := comb_abs h hn hk
  have hl : (mcComb (n : Int) k).natAbs.log2 < bitsLine := by
    have : (mcComb (n : Int) k).natAbs.log2 < 1261 := PySem.Flt.log2_lt_of (by decide) (by
      have : (2 : Nat) ^ 1261 = 2 ^ 1260 * 2 := by rw [← Nat.pow_succ]
      have h2 : 0 < (2 : Nat) ^ 1260 := Nat.pow_pos (by decide)
      omega)
    rw [bitsLine_eq]
    omega
  rw [hq] at hl ⊢
  have m9 : (9 : Int) ≤ Builtin.Math.manyFactors := by decide
  have m9' : (9 : Int) ≤ Builtin.Math.maxSsize := by decide
  have mk : min (k : Int) ((n : Int) - k) ≤ 9 := by omega
  exact mc_run_comb n t k u (by omega) (by omega) (by omega) (fun z => by omega) (fun z => by omega) (by omega) hl
def rComb : List V → Hp → VK → Prop := fun vs H Q => ∃ n k : Nat, vs = [.int n, .int k] ∧ k ≤ n ∧ (n : Int) < 2 ^ 140 ∧ k ≤ 9 ∧ Q (.int (ch n k : Int)) H
theorem cr_comb {X : Cx} : CallR X (.builtin "math.comb") rComb := by
  intro pins s σ H vs us Q I r h
  obtain ⟨n, k, rfl, hk, hn, h9, q⟩ := h
  obtain ⟨t, u, rfl⟩ := Vals.int2 r
  exact call_function_meets MGF.kind_comb MGF.plain_comb MGF.entry_comb (MGF.args_comb _ _) (comb_gives t u hk hn h9).meets ⟨.int _, H, I.tok _, ⟨_, rfl⟩, q⟩
/-! ## ranges that stand in a list -/
abbrev PrA := Addr × PrI
def prV (L : List PrA) : List V := L.map fun x => V.ref x.1
def PrsIn (H : Hp) (L : List PrA) : Prop := ∀ x ∈ L, H x.1 = some (.tup [.int x.2.1, .int x.2.2])
def PrsAt (H : Hp) (l : Addr) (r : List PrI) : Prop := ∃ L : List PrA, H l = some (.lst (prV L)) ∧ PrsIn H L ∧ L.map (·.2) = r
theorem PrsAt.ex {H H' : Hp} {l : Addr} {r : List PrI} (h : PrsAt H l r) (e : Ex H H') : PrsAt H' l r := by
  obtain ⟨L, a, b, c⟩ := h
  exact ⟨L, e _ _ a, fun x hx => e _ _ (b x hx), c⟩
theorem PrsAt.bu {H H' : Hp} {l r : Addr} {n : Nat} {R : List PrI} (h : PrsAt H l R) (nr : l ≠ r) (g : Rng H r n) (e : Bu r H H') : PrsAt H' l R := by
  obtain ⟨L, a, b, c⟩ := h
  exact ⟨L, e _ _ nr a, fun x hx => e _ _ (g.ne_tup (b x hx)) (b x hx), c⟩
theorem PrsAt.ne {H : Hp} {l r : Addr} {n : Nat} {R : List PrI} (h : PrsAt H l R) (g : Rng H r n) : l ≠ r := fun z => by
  obtain ⟨L, a, b, c⟩ := h
  obtain ⟨d, s, k, q, _⟩ := g
  rw [z, q] at a
  cases L with
  | nil => cases a
  | cons x xs => cases a
def prD (p : PrI) : PyData := .tuple [.int p.1, .int p.2]
theorem PrsAt.dp {K : PySem.W.Frag} {H : Hp} {l : Addr} {r : List PrI} (h : PrsAt H l r) : Dp K H (.ref l) (.list (r.map prD)) := by
  obtain ⟨L, a, b, rfl⟩ := h
  refine .lst (sq_of a) (dps_at (by simp [prV]) fun j d hj => ?_)
  rw [List.getElem?_map, List.getElem?_map] at hj
  obtain ⟨p, hp, rfl⟩ := Option.map_eq_some_iff.mp hj
  obtain ⟨x, hx, rfl⟩ := Option.map_eq_some_iff.mp hp
  exact ⟨.ref x.1, by unfold prV; rw [List.getElem?_map, hx]; rfl, .tup (st_of (b x (List.mem_of_getElem? hx))) (.cons (.int _) (.cons (.int _) .nil))⟩
def spCR : Sp := fun vs H Q _ => ∃ l r, vs = [.ref l] ∧ PrsAt H l r ∧ r.length ≤ 100 ∧ (∀ p ∈ r, p.1 ≤ p.2) ∧ ∀ H', Ex H H' → Q .non H'
/-- numbers that are not far off -/
def nearP (r : List PrI) : Prop := ∀ p ∈ r, p.1.natAbs < 2 ^ 132 ∧ p.2.natAbs < 2 ^ 132
def preWU : List V → Hp → V → Prop := fun vs H v => ∃ i l r, vs = [.int i, .ref l] ∧ PrsAt H l r ∧ r.length ≤ 8 ∧ (∀ p ∈ r, p.1 ≤ p.2) ∧ nearP r ∧ i.natAbs < 2 ^ 130 ∧ v = .int (Gs r (Fk r.length) (i - lowS r))
def preCB (K : PySem.W.Frag) : List V → Hp → V → Prop := fun vs H v => ∃ p m k l r, vs = [.ref p, k.v, .ref l] ∧ AtM K H p m ∧ m.Ok ∧ PrsAt H l r ∧ r.length ≤ 8 ∧ (∀ p ∈ r, p.1 ≤ p.2) ∧ nearP r ∧ whP r < 2000 ∧ v = .int (beyP (m.low k) (m.high k) r)
/-! ### the rooms -/
theorem rooms_snoc (p : PrI) : ∀ (r acc : List PrI), rooms acc (r ++ [p]) = rooms acc r ++ (rooms acc r).map fun x => (x.1 - (p.2 - p.1 + 1), -x.2)
  | [], acc => rfl
  | q :: r, acc => rooms_snoc p r _
theorem rooms_len : ∀ (r acc : List PrI), (rooms acc r).length = acc.length * 2 ^ r.length
  | [], acc => (Nat.mul_one _).symm
  | q :: r, acc => by
    show (rooms _ r).length = acc.length * 2 ^ (r.length + 1)
    rw [rooms_len r, List.length_append, List.length_map, Nat.pow_succ, ← Nat.two_mul, Nat.mul_comm 2, Nat.mul_assoc, Nat.mul_comm 2]
def RoomOk (B : Nat) (acc : List PrI) : Prop := ∀ x ∈ acc, x.1.natAbs ≤ B ∧ (x.2 = 1 ∨ x.2 = -1)
theorem rooms_ok {C : Nat} : ∀ (r acc : List PrI) {B : Nat}, (∀ p ∈ r, (p.2 - p.1 + 1).natAbs ≤ C) → RoomOk B acc → RoomOk (B + r.length * C) (rooms acc r)
  | [], acc, B, _, h => by
    have : B + ([] : List PrI).length * C = B := by simp
    rw [this]
    exact h
  | q :: r, acc, B, hr, h => by
    have hq := hr q (List.mem_cons_self ..)
    have ih := rooms_ok (B := B + C) r (acc ++ acc.map fun x => (x.1 - (q.2 - q.1 + 1), -x.2)) (fun p hp => hr p (List.mem_cons_of_mem _ hp)) (fun x hx => by
      rcases List.mem_append.mp hx with z | z
      · have := h x z
        exact ⟨by omega, this.2⟩
      · obtain ⟨y, hy, rfl⟩ := List.mem_map.mp z
        have := h y hy
        exact ⟨by show (y.1 - (q.2 - q.1 + 1)).natAbs ≤ B + C; omega, by show -y.2 = 1 ∨ -y.2 = -1; omega⟩)
    have e : B + (q :: r).length * C = B + C + r.length * C := by rw [List.length_cons, Nat.add_mul, Nat.one_mul]; omega
    rw [e]
    exact ih
theorem lowS_small : ∀ {r : List PrI}, nearP r → (lowS r).natAbs ≤ r.length * 2 ^ 132
  | [], _ => by simp [lowS]
  | p :: r, h => by
    have ih := lowS_small (r := r) fun q hq => h q (List.mem_cons_of_mem _ hq)
    have hp := (h p (List.mem_cons_self ..)).1
    have e3 : lowS (p :: r) = p.1 + lowS r := by simp [lowS]
    rw [e3, List.length_cons, Nat.add_mul, Nat.one_mul]
    omega
theorem room_ok {r : List PrI} {i : Int} (hn : nearP r) (h8 : r.length ≤ 8) (hi : i.natAbs < 2 ^ 130) : RoomOk (2 ^ 139) (rooms [(i - lowS r, 1)] r) := by
  have h1 := lowS_small hn
  have h2 : r.length * 2 ^ 132 ≤ 8 * 2 ^ 132 := Nat.mul_le_mul_right _ h8
  have a := rooms_ok (C := 2 ^ 134) (B := 2 ^ 136) r [(i - lowS r, 1)] (fun p hp => by have := hn p hp; omega) (fun x hx => by
    rw [List.mem_singleton.mp hx]
    exact ⟨by show (i - lowS r).natAbs ≤ 2 ^ 136; omega, .inl rfl⟩)
  have h3 : r.length * 2 ^ 134 ≤ 8 * 2 ^ 134 := Nat.mul_le_mul_right _ h8
  intro x hx
  have := a x hx
  exact ⟨by omega, this.2⟩
def termL (n : Nat) (acc : List PrI) : List Int := (acc.filter fun x => decide (0 ≤ x.1)).map fun x => x.2 * Fk n x.1
theorem term_sum (n : Nat) : ∀ acc : List PrI, (termL n acc).sum = sumR acc (Fk n)
  | [] => rfl
  | x :: acc => by
    have ih := term_sum n acc
    unfold termL at ih ⊢
    rw [List.filter_cons]
    have e : sumR (x :: acc) (Fk n) = x.2 * Fk n x.1 + sumR acc (Fk n) := by simp [sumR]
    rw [e]
    by_cases h : 0 ≤ x.1
    · rw [if_pos (decide_eq_true h), List.map_cons, List.sum_cons, ih]
    · rw [if_neg (by simpa using h), ih]
      have : Fk n x.1 = 0 := by unfold Fk; rw [if_neg h]
      rw [this, Int.mul_zero]
      omega
theorem term_snoc (n : Nat) (acc : List PrI) (x : PrI) : termL n (acc ++ [x]) = termL n acc ++ (if 0 ≤ x.1 then [x.2 * Fk n x.1] else []) := by
  unfold termL
  rw [List.filter_append, List.map_append]
  congr 1
  by_cases h : 0 ≤ x.1
  · rw [if_pos h, List.filter_cons, if_pos (decide_eq_true h)]
    rfl
  · rw [if_neg h, List.filter_cons, if_neg (by simpa using h)]
    rfl
theorem take_snoc {α : Type} {L : List α} {i : Nat} {y : α} (h : L[i]? = some y) : L.take (i + 1) = L.take i ++ [y] := by
  rw [List.take_succ, h]
  rfl
theorem q_forLx {K : PySem.W.Frag} {σ : L2.St} {H : Hp} {te : TE} {g : TG} {tb tz : TS} {D : Ends} {a : Addr} {xs : List V} (h : Ev te σ H (.ref a)) (hx : SqL K H a xs) (Pv : Nat → L2.St → Hp → Prop) (h0 : ∀ H1, Ex H H1 → Pv 0 σ H1) (hk : ∀ i σ' G, i ≤ xs.length → Pv i σ' G → SqL K G a xs)
    (hs : ∀ i x σ' G, xs[i]? = some x → Pv i σ' G → g x σ' G fun σ2 H2 => tb { D with nx := Pv (i + 1), ct := Pv (i + 1), bk := tz D } σ2 H2) (hd : ∀ σ' G, Pv xs.length σ' G → tz D σ' G) : tSeq (tFor (iList K te) g tb) tz D σ H :=
  h H (Ex.refl H) _ fun H1 e1 => ⟨a, rfl, ⟨xs, ex_l e1 hx⟩, for_list (xs := xs) Pv (h0 H1 e1) hk hs hd⟩
theorem whP_app (b : List PrI) : ∀ a : List PrI, whP (a ++ b) = whP a * whP b
  | [] => (Nat.one_mul _).symm
  | p :: a => by
    show szP p * whP (a ++ b) = szP p * whP a * whP b
    rw [whP_app b a, Nat.mul_assoc]
theorem whP_pos : ∀ {r : List PrI}, (∀ p ∈ r, p.1 ≤ p.2) → 1 ≤ whP r
  | [], _ => Nat.le_refl _
  | p :: r, h => by
    have h1 := h p (List.mem_cons_self ..)
    have h2 := whP_pos (r := r) fun q hq => h q (List.mem_cons_of_mem _ hq)
    have h3 : 1 ≤ szP p := by unfold szP; omega
    show 1 ≤ szP p * whP r
    exact Nat.le_trans (by decide) (Nat.mul_le_mul h3 h2)
theorem whP_take {r : List PrI} (h : ∀ p ∈ r, p.1 ≤ p.2) (i : Nat) : whP (r.take i) ≤ whP r := by
  have e : whP r = whP (r.take i) * whP (r.drop i) := by rw [← whP_app, List.take_append_drop]
  have h2 := whP_pos (r := r.drop i) fun p hp => h p (List.mem_of_mem_drop hp)
  rw [e]
  exact Nat.le_mul_of_pos_right _ h2
theorem whP_snoc (a : List PrI) (p : PrI) : whP (a ++ [p]) = whP a * szP p := by
  rw [whP_app]
  show whP a * (szP p * 1) = _
  rw [Nat.mul_one]
theorem saug_raw {i : Nat} {te : TE} {ti : TIp} {D : Ends} {σ : L2.St} {H : Hp} {v : V} (hx : σ[i]? = some (some v)) (h : te σ H fun y H1 => ti v y H1 fun z H2 => D.nx (σ.set i (some z)) H2) : tAug i te ti D σ H := ⟨v, hx, h⟩
end Cf

set_option exponentiation.threshold 20000
namespace Cf
open PySem PySem.Spec PyProof.Rows L2 Evl PySem.W
/-! ## ranges of great numbers -/
theorem turn_long {P : Program} {w : World} {K : PySem.W.Frag} {tg : Expr} (it : Addr) (lo : Int) (n : Nat) : Turn P w K tg (Itr lo n) [it] it (fun i h => IsLongIter h it (lo + (i : Nat) * 1) ((n : Int) - (i : Nat)) 1) where
  mem := by simp
  obj := fun i h st b hb => by
    have e : b = it := by simpa using hb
    subst e
    exact ⟨_, st, fun v z => by
      have z' : Data.fields _ = Data.cell v := z
      cases z'⟩
  keep := fun i h h' st k => k it (by simp) _ st
  item := by
    intro X hP hw hK hc i pins s σ H E I hf st hg
    subst hP hw hK
    obtain ⟨f0, f1, f2, f3, f4, f5⟩ := hf it (by simp)
    have W := Walks.longrange (prog := X.prog) (w := X.w) (I.ok.hd hc) it lo 1 n
    refine W.item i s _ _ hg st fun v h' tk hv st' kk => ?_
    obtain ⟨t, rfl⟩ := hv
    have I1 : Inv X pins σ H { s with heap := h', toks := tk } := I.turned (fun b o hb e => kk b o (by simpa using hb) e) f0 f1 f3 f4 f5
    refine ⟨_, rfl, go_of (s := { s with heap := h', toks := tk }) (n := "longrange_iterator") st' rfl rfl (by decide) ⟨.int (lo + i), H, I1, ⟨t, ?_⟩, ⟨rfl, rfl⟩, st', fun b hb => (hf b hb).1⟩⟩
    rw [Int.mul_one]
  done := by
    intro X hP hw hK hc i pins s σ H E I hf st hg
    subst hP hw hK
    obtain ⟨f0, f1, f2, f3, f4, f5⟩ := hf it (by simp)
    exact wpAny_pyNext_long_end (I.ok.hd hc) st (by have : n ≤ i := hg; omega) fun h' eb => ⟨rfl, I.turned (t' := s.toks) (fun b o hb e => eb b o hb e) f0 f1 f3 f4 f5⟩
  self := fun _ _ _ _ _ st h => wpAny_pyIter_longiter st h
section
variable {X : Cx} {tg : Expr}
theorem rangeB_it {pins : List (Addr × Obj)} {σ : L2.St} {H : Hp} {s : Shared} {R : It → Hp → Prop} {E : Value → Shared → Prop} {lo hi : Int} {t u v : Tok} {tk : Nat} (I : Inv X pins σ H s)
    (q : R (Itr lo (hi - lo).toNat) H) : wpAny (model X.prog X.w) X.A (pyIter (.ref s.heap.objs.size)) (PIE X pins σ tg R) E { s with heap := s.heap.push { cls := .type "range", data := .fields #[.int lo t, .int hi u, .int 1 v] }, toks := tk } := by
  have I1 : Inv X pins σ H { s with heap := s.heap.push { cls := .type "range", data := .fields #[.int lo t, .int hi u, .int 1 v] }, toks := tk } := I.kept fun b o e => Heap.get?_push_of_some _ e
  have e1 : lo + ((0 : Nat) : Int) * 1 = lo := by simp
  have e2 : (((hi - lo).toNat : Nat) : Int) - ((0 : Nat) : Int) = Builtin.Range.rangeSize lo hi 1 := by rw [rangeSize_one]; split <;> omega
  by_cases hsm : Builtin.Range.small lo hi 1 = true
  · refine wpAny_pyIter_range (IsRange.new ..) hsm ?_
    refine ⟨(s.heap.push { cls := .type "range", data := .fields #[.int lo t, .int hi u, .int 1 v] }).objs.size, [(s.heap.push { cls := .type "range", data := .fields #[.int lo t, .int hi u, .int 1 v] }).objs.size], _, _, H, rfl,
      I1.kept (t' := tk) fun b o e => Heap.get?_push_of_some _ e, turn_range _ lo (hi - lo).toNat, ?_, fun b hb => ?_, q⟩
    · show IsRangeIter _ _ (lo + ((0 : Nat) : Int) * 1) ((((hi - lo).toNat : Nat) : Int) - ((0 : Nat) : Int)) 1
      rw [e1, e2]
      exact Heap.get?_push_size _ rfl
    · have e : b = (s.heap.push { cls := .type "range", data := .fields #[.int lo t, .int hi u, .int 1 v] }).objs.size := by simpa using hb
      subst e
      exact I1.fpOk (Nat.le_refl _) (I1.hok.fresh (Nat.le_refl _))
  · refine wpAny_pyIter_longrange (IsRange.new ..) (by simpa using hsm) ?_
    refine ⟨(s.heap.push { cls := .type "range", data := .fields #[.int lo t, .int hi u, .int 1 v] }).objs.size, [(s.heap.push { cls := .type "range", data := .fields #[.int lo t, .int hi u, .int 1 v] }).objs.size], _, _, H, rfl,
      I1.kept (t' := tk) fun b o e => Heap.get?_push_of_some _ e, turn_long _ lo (hi - lo).toNat, ?_, fun b hb => ?_, q⟩
    · show IsLongIter _ _ (lo + ((0 : Nat) : Int) * 1) ((((hi - lo).toNat : Nat) : Int) - ((0 : Nat) : Int)) 1
      rw [e1, e2]
      exact Heap.get?_push_size _ rfl
    · have e : b = (s.heap.push { cls := .type "range", data := .fields #[.int lo t, .int hi u, .int 1 v] }).objs.size := by simpa using hb
      subst e
      exact I1.fpOk (Nat.le_refl _) (I1.hok.fresh (Nat.le_refl _))
def iRngB (ta : TA) : TI := fun σ H R => ta σ H fun vs H1 => ∃ i j : Int, vs = [.int i, .int j] ∧ R (Itr i (j - i).toNat) H1
theorem pi_rangeB {a b : Expr} {ta : TA} {p pos : Pos} (hg : Gl X "range") (hm : X.mg "range" = none) (ha : PA X [a, b] ta) (hs : starEach [a, b] X.env = [(false, eval a X.env), (false, eval b X.env)] := by rfl) (hs2 : starEach [b] X.env = [(false, eval b X.env)] := by rfl) :
    PI X tg (.Call (.Name "range" p) [a, b] [] pos) (iRngB ta) := by
  refine ⟨fun pins s σ H R I h => ?_⟩
  refine Call_ (ld_blt I hg hm boot_range (PyProof.Rows.callWith_type1 (thn (ha.run pos pins s σ H _ I h) fun us s1 ⟨vs, H1, I1, r1, q1⟩ => ?_) (by rw [hs, hs2]) (by rw [hs2]; rfl)))
  obtain ⟨i, j, e, q⟩ := q1
  subst e
  cases r1 with
  | cons r rr =>
    cases rr with
    | cons r' rr =>
      cases rr
      obtain ⟨t, rfl⟩ := r
      obtain ⟨t', rfl⟩ := r'
      exact call_range_2 (rangeB_it I1 q)
end
section
variable {σ : L2.St} {H : Hp} {tu tz : TS} {D : Ends}
theorem s_forRB {ta : TA} {j : Nat} {lo n : Int} (h : EvA ta σ H [.int lo, .int n]) (Pv : Nat → L2.St → Hp → Prop) (h0 : ∀ H1, Ex H H1 → Pv 0 σ H1)
    (hs : ∀ (i : Nat) σ' H', i < (n - lo).toNat → Pv i σ' H' → tu { D with nx := Pv (i + 1), ct := Pv (i + 1), bk := D.nx } (σ'.set j (some (.int (lo + (i : Int))))) H') (hd : ∀ σ' H', Pv (n - lo).toNat σ' H' → D.nx σ' H') : tFor (iRngB ta) (gName j) tu D σ H :=
  h H (Ex.refl H) _ fun H1 e1 => ⟨lo, n, rfl, for_range (D := D) Pv (h0 H1 e1) (fun i σ' H' hi p => hs i σ' H' hi p) hd⟩
end
theorem dget_frz {H : Hp} {d : Addr} {od : Obj} {kvs : List (Key × V)} {k : Key} (h : H d = some (.frz od (.dK kvs))) : DGet H d (kV k) (valV kvs k) := .inl ⟨kvs, k, .inr ⟨od, h⟩, rfl, rfl⟩
def spSums : Sp := fun vs H Q _ => ∃ l r, vs = [.ref l] ∧ PrsAt H l r ∧ (∀ p ∈ r, p.1 ≤ p.2) ∧ whP r < 2000 ∧ ∀ d H', H d = none → Ex H H' → H' d = some (.dK (kdP (distP d0 r))) → Q (.ref d) H'
section
variable {σ : L2.St} {H : Hp} {t : TS} {tb tz : TS} {g : TG} {D : Ends} {td tk tx tv : TE} {d : Addr}
theorem ev_dg2 {L : List PrI} {k z : Int} (h1 : Ev td σ H (.ref d)) (h : H d = some (.dK (kdP L))) (hk : Ev tk σ H (.int k)) (hx : Ev tx σ H (.int z)) : Ev (tDGet2 td tk tx) σ H (.int ((getP L k).getD z)) := fun H1 e Q q =>
  h1 H1 e _ fun H2 e2 => ⟨d, rfl, .inl ⟨_, .inl (e2 _ _ (e _ _ h))⟩, hk H2 (e.trans e2) _ fun H3 e3 => hx H3 ((e.trans e2).trans e3) _ fun H4 e4 => ⟨valV (kdP L) (.inl k), DGet.k (k := .inl k) (((e2.trans e3).trans e4) _ _ (e _ _ h)), by
    have hg : (valV (kdP L) (.inl k)).getD (.int z) = .int ((getP L k).getD z) := by
      rw [valV_kdP]
      cases getP L k <;> rfl
    rw [hg]
    exact q H4 ((e2.trans e3).trans e4)⟩⟩
theorem ev_dgF {F : List PrI} {od : Obj} {k z : Int} (h1 : Ev td σ H (.ref d)) (h : H d = some (.frz od (.dK (kdP F)))) (hk : Ev tk σ H (.int k)) (hz : getP F k = some z) : Ev (tDGet td tk) σ H (.int z) := fun H1 e Q q =>
  h1 H1 e _ fun H2 e2 => hk H2 (e.trans e2) _ fun H3 e3 => ⟨d, .int z, rfl, by
    have g := dget_frz (k := .inl k) ((e2.trans e3) _ _ (e _ _ h))
    rw [valV_kdP, hz] at g
    exact g, q H3 (e2.trans e3)⟩
theorem s_dputI {bg : Addr} {L : List PrI} {k v : Int} (hv : Ev tv σ H (.int v)) (ho : Ev td σ H (.ref bg)) (hk : Ev tk σ H (.int k)) (h : H bg = some (.dK (kdP L))) (hl : L.length < 100000) (n : ∀ H1, Ex H H1 → D.nx σ (upd H1 bg (.dK (kdP (putP L k v))))) : sDPut td tk tv D σ H :=
  hv H (Ex.refl H) _ fun H1 e1 => ho H1 e1 _ fun H2 e2 => hk H2 (e1.trans e2) _ fun H3 e3 => ⟨bg, _, rfl, DPut.k (k := .inl k) (e3 _ _ (e2 _ _ (e1 _ _ h))) (sz_lt (by unfold kdP; rw [List.length_map]; exact hl)), by
    rw [putK_kdP]
    exact n H3 (e1.trans (e2.trans e3))⟩
theorem qlock_raw {kvs : List (Key × V)} (h : H d = some (.dK kvs)) (k : ∀ od, t ⟨fun σ' H' => H' d = some (.frz od (.dK kvs)) ∧ tz D σ' (upd H' d (.dK kvs)), fun v H' => H' d = some (.frz od (.dK kvs)) ∧ D.rt v (upd H' d (.dK kvs)), fun σ' H' => H' d = some (.frz od (.dK kvs)) ∧ D.bk σ' (upd H' d (.dK kvs)), fun σ' H' => H' d = some (.frz od (.dK kvs)) ∧ D.ct σ' (upd H' d (.dK kvs))⟩ σ (upd H d (.frz od (.dK kvs)))) : tSeq (tLock t) tz D σ H :=
  ⟨d, _, h, by first | trivial | exact rfl | simp [Mut], k⟩
theorem s_forK {i : Nat} {od : Obj} {kvs : List (Key × V)} (hi : σ[i]? = some (some (.ref d))) (hd : H d = some (.frz od (.dK kvs))) (Pv : Nat → L2.St → Hp → Prop) (h0 : Pv 0 σ H) (hG : ∀ i σ' G, i ≤ kvs.length → Pv i σ' G → G d = some (.frz od (.dK kvs)))
    (hs : ∀ i k v σ' G, kvs[i]? = some (k, v) → Pv i σ' G → g (kV k) σ' G fun σ2 H2 => tb { D with nx := Pv (i + 1), ct := Pv (i + 1), bk := D.nx } σ2 H2) (he : ∀ σ' G, Pv kvs.length σ' G → D.nx σ' G) : tFor (iKeys (tVar i)) g tb D σ H :=
  ⟨_, hi, d, od, rfl, .inl ⟨kvs, hd, for_it walk_keys Pv h0 hG (fun i x σ' G G' hl p y => by
    obtain ⟨rfl, k, v, hk, rfl⟩ := y
    exact hs i k v _ _ hk p) he⟩⟩
end
theorem lcK_go {σ : L2.St} {H : Hp} {te : TE} {tt : TT} {g : TG} {vs : List Nat} {i : Nat} {d : Addr} {od : Obj} {kvs : List (Key × V)} {Q : VK} (hi : σ[i]? = some (some (.ref d))) (hd : H d = some (.frz od (.dK kvs))) (Pv : Addr → Nat → Hp → Prop) (h0 : ∀ D, H D = none → Pv D 0 (upd H D (.lst [])))
    (hG : ∀ D j G, j ≤ kvs.length → Pv D j G → G d = some (.frz od (.dK kvs)))
    (hs : ∀ D j k v G, kvs[j]? = some (k, v) → Pv D j G → g (kV k) (wipe σ vs) G fun σ2 H2 => wipe σ2 vs = wipe σ vs ∧ tt σ2 H2 fun b H3 =>
      if b = true then te σ2 H3 fun y H4 => ∃ acc, H4 D = some (.lst acc) ∧ acc.length < sizeLine ∧ Pv D (j + 1) (upd H4 D (.lst (acc ++ [y]))) else Pv D (j + 1) H3)
    (he : ∀ D G, Pv D kvs.length G → Q (.ref D) G) : tLc (iKeys (tVar i)) g tt te vs σ H Q :=
  ⟨_, hi, d, od, rfl, .inl ⟨kvs, hd, fun D nD => lc_it walk_keys (Pv D) (h0 D nD) (hG D) (fun j x G G' hl p y => by
    obtain ⟨rfl, k, v, hk, rfl⟩ := y
    exact hs D j k v _ hk p) (he D)⟩⟩
def dueL (lo hi : Int) (F : List PrI) : List Int := (F.filter fun x => !decide (lo ≤ x.1 ∧ x.1 ≤ hi)).map (·.2)
theorem due_sum (lo hi : Int) : ∀ F : List PrI, (dueL lo hi F).sum = tot (outP lo hi) F
  | [] => rfl
  | x :: F => by
    have ih := due_sum lo hi F
    rw [tot_cons]
    unfold dueL at ih ⊢
    rw [List.filter_cons]
    by_cases h : lo ≤ x.1 ∧ x.1 ≤ hi
    · rw [if_neg (by rw [decide_eq_true h]; decide), ih]
      unfold outP
      rw [if_pos h, Int.mul_zero]
      omega
    · rw [if_pos (by rw [decide_eq_false h]; rfl), List.map_cons, List.sum_cons, ih]
      unfold outP
      rw [if_neg h, Int.mul_one]
theorem due_snoc (lo hi : Int) (F : List PrI) (x : PrI) : dueL lo hi (F ++ [x]) = dueL lo hi F ++ (if (!decide (lo ≤ x.1 ∧ x.1 ≤ hi)) = true then [x.2] else []) := by
  unfold dueL
  rw [List.filter_append, List.map_append]
  congr 1
  rw [List.filter_cons]
  split <;> rfl
def spRw47 (K : PySem.W.Frag) : Sp := fun vs H Q _ => ∃ r p m n, vs = [.ref r, .ref p] ∧ AtM K H p m ∧ m.Ok ∧ n < 2 ^ 50 ∧ Rng H r n ∧ ∀ l R H', Bu r H H' → Rng H' r (n + 60) → PrsAt H' l R → R.length ≤ 8 → (∀ q ∈ R, q.1 ≤ q.2) → nearP R → whP R < 2000 → Q (.ref l) H'
theorem Md.near (m : Md) (h : m.Ok) (k : Kd) : (m.low k).natAbs < 2 ^ 129 ∧ (m.high k).natAbs < 2 ^ 129 := by
  have hspan := m.span h k
  have hlow := m.low_le k
  obtain ⟨b0, b1⟩ := h.b k
  have q2 : (2 : Int) ^ m.b k ≤ 2 ^ 128 := by
    have : (2 : Nat) ^ m.b k ≤ 2 ^ 128 := Nat.pow_le_pow_right (by decide) b1
    exact_mod_cast this
  omega
theorem rowsP_sm : ∀ {R : List PrI}, nearP R → SmAll (R.map prD) ∧ szAll (R.map prD) ≤ 3 * R.length ∧ PyData.depthAll (R.map prD) ≤ 1
  | [], _ => ⟨trivial, by simp [szAll], by simp [PyData.depthAll]⟩
  | x :: R, h => by
    obtain ⟨a, b, c⟩ := rowsP_sm (R := R) fun q hq => h q (List.mem_cons_of_mem _ hq)
    obtain ⟨h1, h2⟩ := h x (List.mem_cons_self ..)
    refine ⟨⟨⟨lit_sm (by omega), lit_sm (by omega), trivial⟩, a⟩, ?_, ?_⟩
    · simp only [List.map_cons, szAll, prD, szD, List.length_cons]
      omega
    · simp only [List.map_cons, PyData.depthAll, prD, PyData.depth]
      omega
section
variable {σ : L2.St} {H : Hp} {t : TE} {tb tz : TS} {g : TG} {D : Ends} {d : Addr} {te : TE}
theorem lockE_raw {kvs : List (Key × V)} {Q : VK} (h : H d = some (.dK kvs)) (k : ∀ od, t σ (upd H d (.frz od (.dK kvs))) fun v H' => H' d = some (.frz od (.dK kvs)) ∧ Q v (upd H' d (.dK kvs))) : tLockE t σ H Q := ⟨d, _, h, trivial, k⟩
theorem q_forLN {K : PySem.W.Frag} {xs : List V} (h : EvL te σ H xs) (Pv : Addr → Nat → L2.St → Hp → Prop) (h0 : ∀ a H1, H a = none → Ex H H1 → H1 a = some (.lst xs) → Pv a 0 σ H1) (hk : ∀ a i σ' G, i ≤ xs.length → Pv a i σ' G → SqL K G a xs)
    (hs : ∀ a i x σ' G, xs[i]? = some x → Pv a i σ' G → g x σ' G fun σ2 H2 => tb { D with nx := Pv a (i + 1), ct := Pv a (i + 1), bk := tz D } σ2 H2) (hd : ∀ a σ' G, Pv a xs.length σ' G → tz D σ' G) : tSeq (tFor (iList K te) g tb) tz D σ H :=
  h H (Ex.refl H) _ fun a H1 na e1 h1 => ⟨a, rfl, ⟨xs, sq_of h1⟩, for_list (xs := xs) (Pv a) (h0 a H1 na e1 h1) (hk a) (hs a) (hd a)⟩
end
def spR47 : Sp := fun vs H Q _ => ∃ r top n, vs = [.ref r, .int top] ∧ 4 ≤ top ∧ top ≤ 128 ∧ n < 2 ^ 40 ∧ Rng H r n ∧ ∀ H', Bu r H H' → Rng H' r (n + 80) → Q (.bl true) H'
end Cf

set_option exponentiation.threshold 20000
namespace Cf
open PySem PySem.Spec PyProof.Rows L2 Evl PySem.W
/-! ## k49: ranges that may be wrong, what is told -/
def chkR (C : Addr) : Nat → List PrI → Option (Addr × V)
  | _, [] => none
  | i, p :: r => if p.2 < p.1 then some (C, .int (i : Nat)) else chkR C (i + 1) r
theorem chkR_C (C : Addr) : ∀ (i : Nat) (r : List PrI), chkR C i r = (chkR 0 i r).map fun z => (C, z.2)
  | _, [] => rfl
  | i, p :: r => by
    unfold chkR
    split
    · rfl
    · exact chkR_C C (i + 1) r
theorem chkR_ok {C : Addr} : ∀ {i : Nat} {r : List PrI}, chkR C i r = none → ∀ p ∈ r, p.1 ≤ p.2
  | _, [], _, p, hp => nomatch hp
  | i, q :: r, h, p, hp => by
    unfold chkR at h
    split at h
    · exact nomatch h
    · rcases List.mem_cons.mp hp with rfl | hp
      · omega
      · exact chkR_ok h p hp
theorem chkR_drop {C : Addr} {r : List PrI} {i : Nat} {p : PrI} (h : r[i]? = some p) : chkR C i (r.drop i) = if p.2 < p.1 then some (C, .int (i : Nat)) else chkR C (i + 1) (r.drop (i + 1)) := by
  obtain ⟨hi, e⟩ := List.getElem?_eq_some_iff.mp h
  rw [List.drop_eq_getElem_cons hi, e]
  rfl
def preCR (C : Addr) : List V → Hp → Option (Addr × V) → Prop := fun vs H o => ∃ l r, vs = [.ref l] ∧ PrsAt H l r ∧ r.length ≤ 100 ∧ o = chkR C 0 r
def sizesP (r : List PrI) : Prop := ∀ p ∈ r, p.2 - p.1 < 2 ^ 62
def preCBX (K : PySem.W.Frag) (CM CK CN : Addr) : List V → Hp → Option (Addr × V) → Prop := fun vs H o => ∃ p ns pl x l r, vs = [.ref p, .str x, .ref l] ∧ AtX K H p ns pl ∧ PrsAt H l r ∧ r.length ≤ 8 ∧ nearP r ∧ sizesP r ∧ o = andThen (chkM CM ns pl) (andThen (chkK CK x) (chkR CN 0 r))
/-- a def that gives one of R, or raises as o says -/
def PXr (R : V → Prop) (pre : List V → Hp → Option (Addr × V) → Prop) : Sp := fun vs H Q E => ∃ o, pre vs H o ∧ (o = none → ∀ v H', R v → Ex H H' → Q v H') ∧ ∀ C v, o = some (C, v) → Out C v H E
theorem pxr_len {R : V → Prop} {pre : List V → Hp → Option (Addr × V) → Prop} {n : Nat} (h : ∀ vs H o, pre vs H o → vs.length = n) : ∀ vs H Q E, PXr R pre vs H Q E → vs.length = n := fun vs H Q E q => by
  obtain ⟨o, a, _⟩ := q
  exact h _ _ _ a
theorem q_asgXr {R : V → Prop} {pre : List V → Hp → Option (Addr × V) → Prop} {o : Option (Addr × V)} {σ : L2.St} {H : Hp} {vs : List V} {ta : TA} {tz : TS} {D : Ends} {W : WX} {i : Nat} (h : EvA ta σ H vs) (hp : ∀ H1, Ex H H1 → pre vs H1 o) (h0 : o = none → ∀ v H1, R v → Ex H H1 → tz D (σ.set i (some v)) H1)
    (h1 : ∀ C v, o = some (C, v) → ∀ H1, Ex H H1 → Out C v H1 (fun c d H' => W c d σ H')) : tSeq (tAsg (tCallS (PXr R pre) (WE W) ta) (gName i)) tz D σ H :=
  h H (Ex.refl H) _ fun H1 e1 => ⟨o, hp H1 e1, fun z v H' r e' => h0 z v H' r (e1.trans e'), fun C v z => h1 C v z H1 e1⟩
def isSg (v : V) : Prop := v = .non ∨ ∃ k : Kd, v = k.v
/-! list.count, flat items -/
def rCountL (K : PySem.W.Frag) : V → List V → Hp → VK → Prop := fun x xs H Q => ∃ (a : Addr) (ys : List V) (y : V), x = V.ref a ∧ xs = [y] ∧ SqL K H a ys ∧ flatV y = true ∧ ys.all flatV = true ∧ Q (.int ((ys.countP fun z => eqV z y : Nat) : Int)) H
theorem count_vals {y : V} {uy : Value} (ry : RelV y uy) (fy : flatV y = true) : ∀ {ys : List V} {us : List Value}, Vals ys us → ys.all flatV = true → us.countP (eqU y) = ys.countP fun z => eqV z y
  | [], _, h, _ => by
    cases h
    rfl
  | z :: ys, _, h, f => by
    cases h with
    | cons r rs =>
      rw [List.all_cons, Bool.and_eq_true] at f
      rw [List.countP_cons, List.countP_cons, count_vals ry fy rs f.2, eqU_of r f.1]
theorem mt_countL {X : Cx} : MtR X "list.count" (rCountL X.K) := by
  intro pins s σ H x xs v us Q I rx rxs h
  obtain ⟨a, ys, y, rfl, rfl, hs, fy, fys, q⟩ := h
  cases rx
  cases rxs with
  | cons ry rt =>
    rename_i uy ut
    cases rt
    obtain ⟨its, rv, ⟨⟨cls, dd, data, sl⟩, n, ho, hc, hdn, hd⟩, hlen⟩ := I.list hs
    simp only at hc hd
    subst hc hd
    refine call_meets PySem.F.slot_list_count ⟨_, ho, rfl⟩ PySem.F.entry_list_count (PySem.F.args_list_count_2 _ _)
      (SeqAt.list_countAt a its.toArray n dd sl uy (eqU y)) ⟨ho, fun u' hu' => mem_eqAt ry fy rv fys u' (by simpa using hu'), ?_⟩
    have e : its.toArray.toList.countP (eqU y) = ys.countP fun z => eqV z y := count_vals ry fy rv fys
    rw [e]
    exact ⟨.int _, H, I.tok _, ⟨_, rfl⟩, q⟩
/-! three classes -/
inductive W3 where
  | m | k | n
def W3.s : W3 → Str
  | .m => "model" | .k => "kind" | .n => "number"
def W3.c (cM cK cN : Addr) : W3 → Addr
  | .m => cM | .k => cK | .n => cN
structure ErN (K : PySem.W.Frag) (mg : Str → Option Value) (c0 c1 c2 c3 c4 c5 c6 c7 c8 cE : Addr) : Prop where
  e : Er9 K mg c0 c1 c2 c3 c4 c5 c6 c7 c8
  n : IsF K c5 c0 c1 c2 c3 c4 c5 c6 c7 c8 false false false false false true false false false
  gE : mg "CastError" = some (.ref cE)
  e0 : PySem.W.kitOne K (.ref c0) (.ref cE) = some true
  e1 : PySem.W.kitOne K (.ref c1) (.ref cE) = some true
  e5 : PySem.W.kitOne K (.ref c5) (.ref cE) = some true
def spWord (cM cK cN : Addr) : Sp := fun vs H Q _ => ∃ a w v, vs = [.ref a] ∧ ExAt H a (W3.c cM cK cN w) v ∧ ∀ H', Ex H H' → Q (.str w.s) H'
def tR (r : List PrI) : Option V := (chkR 0 0 r).map (·.2)
theorem chkR_tR (C : Addr) (r : List PrI) : chkR C 0 r = (tR r).map fun v => (C, v) := by
  rw [chkR_C]
  unfold tR
  cases chkR 0 0 r <;> rfl
def T2 (ns : List Int) (pl x y : Str) : Option (W3 × V) := match tm ns pl with
  | some v => some (.m, v)
  | none => match tkd x with
    | some v => some (.k, v)
    | none => (tkd y).map fun v => (.k, v)
def TB (ns : List Int) (pl x : Str) (r : List PrI) : Option (W3 × V) := match tm ns pl with
  | some v => some (.m, v)
  | none => match tkd x with
    | some v => some (.k, v)
    | none => (tR r).map fun v => (.n, v)
theorem T2_eq (cM cK cN : Addr) (ns : List Int) (pl x y : Str) : andThen (chkM cM ns pl) (andThen (chkK cK x) (chkK cK y)) = (T2 ns pl x y).map fun z => (W3.c cM cK cN z.1, z.2) := by
  rw [chkM_tm, chkK_tk, chkK_tk]
  unfold T2
  cases tm ns pl with
  | some v => rfl
  | none => cases tkd x <;> cases tkd y <;> rfl
theorem TB_eq (cM cK cN : Addr) (ns : List Int) (pl x : Str) (r : List PrI) : andThen (chkM cM ns pl) (andThen (chkK cK x) (chkR cN 0 r)) = (TB ns pl x r).map fun z => (W3.c cM cK cN z.1, z.2) := by
  rw [chkM_tm, chkK_tk, chkR_tR]
  unfold TB
  cases tm ns pl with
  | some v => rfl
  | none => cases tkd x <;> cases tR r <;> rfl
def toldDo (door : Int) (ns : List Int) (pl x y : Str) (r : List PrI) : Option (W3 × V) := if door = 3 then TB ns pl x r else T2 ns pl x y
def tV : Option (W3 × V) → List V
  | none => [.str "none", .non]
  | some (w, v) => [.str w.s, v]
def spTold49 (K : PySem.W.Frag) : Sp := fun vs H Q _ => ∃ door p ns pl x y l r, vs = [.int door, .ref p, .str x, .str y, .ref l] ∧ 0 ≤ door ∧ door ≤ 3 ∧ AtX K H p ns pl ∧ PrsAt H l r ∧ r.length ≤ 8 ∧ nearP r ∧ sizesP r ∧ ∀ q H', H q = none → Ex H H' → H' q = some (.lst (tV (toldDo door ns pl x y r))) → Q (.ref q) H'
def spAny49 : Sp := fun vs H Q _ => ∃ r n, vs = [.ref r] ∧ n < 2 ^ 50 ∧ Rng H r n ∧ ∀ H' x, Bu r H H' → Rng H' r (n + 3) → Sm (.str x) → PyData.strOk x = true → Q (.str x) H'
def odds : List Str := ["", "Int", "int ", "integer", "u", "uchar1", "unsigned", "var", "byte", "ulong long", "plain", "S"]
theorem odds_sm : ∀ x ∈ odds, smStr x = true := by decide +kernel
def spBad49 (K : PySem.W.Frag) : Sp := fun vs H Q _ => ∃ r p m n, vs = [.ref r, .ref p] ∧ AtM K H p m ∧ m.Ok ∧ n < 2 ^ 50 ∧ Rng H r n ∧
  ∀ q a b H' ns pl, Bu r H H' → Rng H' r (n + 3) → H' q = some (.lst [.ref a, b]) → AtX K H' a ns pl → tm ns pl = some b → (b = .non ∨ ∃ i : Int, b = .int i ∧ i.natAbs < 100) → (∀ z ∈ ns, small z) → ns.length ≤ 6 → Sm (.str pl) → Q (.ref q) H'
theorem md_sm {m : Md} (h : m.Ok) : ∀ z ∈ m.ns, small z := fun z hz => by
  obtain ⟨o0, o1, o2, o3, o4, o5⟩ := h
  unfold Md.ns at hz
  simp only [List.mem_cons, List.not_mem_nil, or_false] at hz
  unfold small
  rcases hz with rfl | rfl | rfl | rfl | rfl <;> omega
theorem tm_long {ns : List Int} {pl : Str} (h : ns.length ≠ 5) : tm ns pl = some .non := by
  unfold tm chkM chkW
  rw [if_neg h]
  rfl
theorem tm_plain {m : Md} {pl : Str} (h : m.Ok) (hp : plOk pl = false) : tm m.ns pl = some .non := by
  obtain ⟨o0, o1, o2, o3, o4, o5⟩ := h
  unfold tm chkM chkW
  have e : firstBad 0 2 0 m.ns = none := by
    unfold Md.ns
    simp only [firstBad]
    rw [if_neg (by omega), if_neg (by omega), if_neg (by omega), if_neg (by omega), if_neg (by omega)]
  rw [if_pos (by rfl), e]
  simp [hp]
theorem tm_at {m : Md} {pl : Str} {at_ : Nat} {z : Int} (h : m.Ok) (ha : at_ < 5) (hz : z < 2 ∨ 128 < z) : tm (m.ns.set at_ z) pl = some (.int (at_ : Nat)) := by
  obtain ⟨o0, o1, o2, o3, o4, o5⟩ := h
  unfold tm chkM chkW
  have e : firstBad 0 2 0 (m.ns.set at_ z) = some (0, .int (at_ : Nat)) := by
    unfold Md.ns
    match at_, ha with
    | 0, _ => simp only [List.set, firstBad]; rw [if_pos (by omega)]
    | 1, _ => simp only [List.set, firstBad]; rw [if_neg (by omega), if_pos (by omega)]
    | 2, _ => simp only [List.set, firstBad]; rw [if_neg (by omega), if_neg (by omega), if_pos (by omega)]
    | 3, _ => simp only [List.set, firstBad]; rw [if_neg (by omega), if_neg (by omega), if_neg (by omega), if_pos (by omega)]
    | 4, _ => simp only [List.set, firstBad]; rw [if_neg (by omega), if_neg (by omega), if_neg (by omega), if_neg (by omega), if_pos (by omega)]
  rw [if_pos (by rw [List.length_set]; rfl), e]
  rfl
def rTupS (K : PySem.W.Frag) : List V → Hp → VK → Prop := fun xs H Q => ∃ p ys, xs = [.ref p] ∧ ((SqL K H p ys ∧ ∀ l, H l = none → Q (.ref l) (upd H l (.tup ys))) ∨ (SqT K H p ys ∧ Q (.ref p) H))
theorem eu_tupOf {K : PySem.W.Frag} {σ : L2.St} {H : Hp} {ta : TE} {p : Addr} {xs : List V} (ha : Ev ta σ H (.ref p)) (h : H p = some (.lst xs)) : EvU (tCB (rTupS K) (tCons ta tNil)) σ H xs := fun H1 e Q q =>
  ha H1 e _ fun H2 e2 => ⟨p, xs, rfl, .inl ⟨sq_of (e2 _ _ (e _ _ h)), fun l nl => q l _ (fresh_back e2 nl) (e2.trans (Ex.new nl)) upd_same⟩⟩
theorem eu_tupL {K : PySem.W.Frag} {σ : L2.St} {H : Hp} {ta : TE} {xs : List V} (ha : EvL ta σ H xs) : EvU (tCB (rTupS K) (tCons ta tNil)) σ H xs := fun H1 e Q q =>
  ha H1 e _ fun p H2 np e2 h2 => ⟨p, xs, rfl, .inl ⟨sq_of h2, fun l nl => q l _ (fresh_back e2 nl) (e2.trans (Ex.new nl)) upd_same⟩⟩
theorem odds_ok : ∀ x ∈ odds, PyData.strOk x = true := by decide +kernel
theorem kd_strOk (k : Kd) : PyData.strOk k.s = true := by cases k <;> decide +kernel
theorem tm_good {m : Md} (h : m.Ok) : tm m.ns (plS m.u) = none := by
  obtain ⟨o0, o1, o2, o3, o4, o5⟩ := h
  unfold tm chkM chkW
  have e : firstBad 0 2 0 m.ns = none := by
    unfold Md.ns
    simp only [firstBad]
    rw [if_neg (by omega), if_neg (by omega), if_neg (by omega), if_neg (by omega), if_neg (by omega)]
  have hp : plOk (plS m.u) = true := by cases m.u <;> decide
  rw [if_pos (by rfl), e]
  simp [hp]
theorem chkR_snoc (C : Addr) (p : PrI) : ∀ (j : Nat) (a : List PrI), chkR C j (a ++ [p]) = match chkR C j a with | some z => some z | none => if p.2 < p.1 then some (C, .int ((j + a.length : Nat) : Int)) else none
  | j, [] => rfl
  | j, q :: a => by
    show chkR C j (q :: (a ++ [p])) = _
    unfold chkR
    by_cases h : q.2 < q.1
    · rw [if_pos h, if_pos h]
    · rw [if_neg h, if_neg h, chkR_snoc C p (j + 1) a]
      have : j + 1 + a.length = j + (q :: a).length := by rw [List.length_cons]; omega
      rw [this]
def okT (T : Option (W3 × V)) : Prop := ∀ w v, T = some (w, v) → v = .non ∨ (∃ i, v = .int i) ∨ ∃ x, v = .str x ∧ PyData.strOk x = true
def vD : V → PyData
  | .int i => .int i
  | .str x => .str x
  | _ => .none
def tD : Option (W3 × V) → PyData
  | none => .list [.str "none", .none]
  | some (w, v) => .list [.str w.s, vD v]
theorem tV_dp {K : PySem.W.Frag} {H : Hp} {x : Addr} {T : Option (W3 × V)} (ok : okT T) (h : H x = some (.lst (tV T))) : Dp K H (.ref x) (tD T) := by
  cases T with
  | none => exact .lst (sq_of h) (.cons (.str _) (.cons .non .nil))
  | some z =>
    obtain ⟨w, v⟩ := z
    refine .lst (sq_of h) (.cons (.str _) (.cons ?_ .nil))
    rcases ok w v rfl with rfl | ⟨i, rfl⟩ | ⟨y, rfl, _⟩
    · exact .non
    · exact .int i
    · exact .str y
theorem tD_lay {T : Option (W3 × V)} (ok : okT T) : (tD T).canLay0 = true ∧ (tD T).depth ≤ 1 := by
  cases T with
  | none => exact ⟨by decide +kernel, by decide +kernel⟩
  | some z =>
    obtain ⟨w, v⟩ := z
    have hw : PyData.strOk w.s = true := by cases w <;> decide +kernel
    rcases ok w v rfl with rfl | ⟨i, rfl⟩ | ⟨y, rfl, hy⟩
    · exact ⟨by simp [tD, vD, PyData.canLay0, PyData.canLayAll0, hw], by simp [tD, vD, PyData.depth, PyData.depthAll]⟩
    · exact ⟨by simp [tD, vD, PyData.canLay0, PyData.canLayAll0, hw], by simp [tD, vD, PyData.depth, PyData.depthAll]⟩
    · exact ⟨by simp [tD, vD, PyData.canLay0, PyData.canLayAll0, hw, hy], by simp [tD, vD, PyData.depth, PyData.depthAll]⟩
theorem told_data {A B : Option (W3 × V)} (a : okT A) (b : okT B) : SeqAt.shaped (.list [tD A, tD A, tD A, tD B]) = true ∧ PyData.eqv (.list [tD A, tD A, tD A, tD B]) (.list [tD A, tD A, tD A, tD B]) = true := by
  obtain ⟨a1, a2⟩ := tD_lay a
  obtain ⟨b1, b2⟩ := tD_lay b
  have hl : (PyData.list [tD A, tD A, tD A, tD B]).canLay0 = true := by simp [PyData.canLay0, PyData.canLayAll0, a1, b1]
  have hd : (PyData.list [tD A, tD A, tD A, tD B]).depth ≤ 64 := by simp only [PyData.depth, PyData.depthAll]; omega
  exact ⟨by show ((PyData.list [tD A, tD A, tD A, tD B]).canLay0 && decide ((PyData.list [tD A, tD A, tD A, tD B]).depth ≤ 64)) = true; rw [hl, decide_eq_true hd]; rfl, SeqAt.eqv_refl _ hl⟩
/-- the first of what is due -/
def fstT (E : Option V) (L R : Option (W3 × V)) : Option (W3 × V) := match E with
  | some v => some (.m, v)
  | none => match L with
    | some z => some z
    | none => R
theorem T2_fst (ns : List Int) (pl x y : Str) : T2 ns pl x y = fstT (tm ns pl) ((tkd x).map fun v => (.k, v)) ((tkd y).map fun v => (.k, v)) := by
  unfold T2 fstT
  cases tm ns pl <;> cases tkd x <;> rfl
theorem TB_fst (ns : List Int) (pl x : Str) (r : List PrI) : TB ns pl x r = fstT (tm ns pl) ((tkd x).map fun v => (.k, v)) ((tR r).map fun v => (.n, v)) := by
  unfold TB fstT
  cases tm ns pl <;> cases tkd x <;> rfl
/-- a list of none or some lists (word, value), the first of which is of this -/
def Hd (H : Hp) (T : Option (W3 × V)) (ys : List V) : Prop := match T with
  | none => ys = []
  | some z => ∃ t rest, ys = .ref t :: rest ∧ H t = some (.lst (tV (some z)))
theorem Hd.ex {H H' : Hp} {T : Option (W3 × V)} {ys : List V} (h : Hd H T ys) (e : Ex H H') : Hd H' T ys := by
  cases T with
  | none => exact h
  | some z =>
    obtain ⟨t, rest, a, b⟩ := h
    exact ⟨t, rest, a, e _ _ b⟩
theorem Hd.fst {H : Hp} {E : Option V} {L R : Option (W3 × V)} {ys zs ws : List V} {f : Addr} (h1 : Hd H (E.map fun v => (.m, v)) ys) (h2 : Hd H L zs) (h3 : Hd H R ws) (hf : H f = some (.lst (tV none))) : ∃ t, (ys ++ zs ++ ws ++ [.ref f])[0]? = some (.ref t) ∧ H t = some (.lst (tV (fstT E L R))) := by
  cases E with
  | some v =>
    have h1 : ∃ t rest, ys = V.ref t :: rest ∧ H t = some (.lst (tV (some (.m, v)))) := h1
    obtain ⟨t, rest, e, bb⟩ := h1
    subst e
    exact ⟨t, rfl, bb⟩
  | none =>
    have h1 : ys = [] := h1
    subst h1
    cases L with
    | some z =>
      have h2 : ∃ t rest, zs = V.ref t :: rest ∧ H t = some (.lst (tV (some z))) := h2
      obtain ⟨t, rest, e, bb⟩ := h2
      subst e
      exact ⟨t, rfl, bb⟩
    | none =>
      have h2 : zs = [] := h2
      subst h2
      cases R with
      | some z =>
        have h3 : ∃ t rest, ws = V.ref t :: rest ∧ H t = some (.lst (tV (some z))) := h3
        obtain ⟨t, rest, e, bb⟩ := h3
        subst e
        exact ⟨t, rfl, bb⟩
      | none =>
        have h3 : ws = [] := h3
        subst h3
        exact ⟨f, rfl, hf⟩
theorem okT_fst {E : Option V} {L R : Option (W3 × V)} (hE : ∀ v, E = some v → v = .non ∨ ∃ i, v = .int i) (hL : okT L) (hR : okT R) : okT (fstT E L R) := by
  intro w v h
  unfold fstT at h
  cases E with
  | some b =>
    cases h
    rcases hE _ rfl with h | h
    · exact .inl h
    · exact .inr (.inl h)
  | none =>
    cases L with
    | some z => exact hL w v h
    | none => exact hR w v h
def spR49 : Sp := fun vs H Q _ => ∃ r n, vs = [.ref r] ∧ n < 2 ^ 40 ∧ Rng H r n ∧ ∀ H', Bu r H H' → Rng H' r (n + 60) → Q (.bl true) H'
section
variable {σ : L2.St} {H : Hp} {ta tb : TE} {a b : Addr} {xs ys : List V}
theorem el_catVV (ha : Ev ta σ H (.ref a)) (hx : H a = some (.lst xs)) (hb : Ev tb σ H (.ref b)) (hy : H b = some (.lst ys)) (hl : xs.length + ys.length ≤ 100000) : EvL (tOp rCat ta tb) σ H (xs ++ ys) := fun H1 e Q q =>
  ha H1 e _ fun H2 e2 => hb H2 (e.trans e2) _ fun H3 e3 => ⟨a, b, xs, ys, rfl, rfl, (e2.trans e3) _ _ (e _ _ hx), (e2.trans e3) _ _ (e _ _ hy), sz_of hl, fun p np => q p _ (fresh_back (e2.trans e3) np) ((e2.trans e3).trans (Ex.new np)) upd_same⟩
theorem el_catLV (ha : EvL ta σ H xs) (hb : Ev tb σ H (.ref b)) (hy : H b = some (.lst ys)) (hl : xs.length + ys.length ≤ 100000) : EvL (tOp rCat ta tb) σ H (xs ++ ys) := fun H1 e Q q =>
  ha H1 e _ fun a H2 na e2 hx => hb H2 (e.trans e2) _ fun H3 e3 => ⟨a, b, xs, ys, rfl, rfl, e3 _ _ hx, (e2.trans e3) _ _ (e _ _ hy), sz_of hl, fun p np => q p _ (fresh_back (e2.trans e3) np) ((e2.trans e3).trans (Ex.new np)) upd_same⟩
theorem tifE_raw {t : TT} {Q : VK} (h : t σ H fun c H1 => if c = true then ta σ H1 Q else tb σ H1 Q) : tIf t ta tb σ H Q := h
end
theorem sqT_upd {K : PySem.W.Frag} {H : Hp} {l a : Addr} {o : HO} {ys xs : List V} (hl : H l = some (.lst ys)) (h : SqT K H a xs) : SqT K (upd H l o) a xs := by
  rcases h with (h | ⟨o2, h⟩) | h
  · exact .inl (.inl (by rw [upd_ne (fun z => by rw [z, hl] at h; exact nomatch h)]; exact h))
  · exact .inl (.inr ⟨o2, by rw [upd_ne (fun z => by rw [z, hl] at h; exact nomatch h)]; exact h⟩)
  · exact .inr h
theorem atX_upd {K : PySem.W.Frag} {H : Hp} {l p : Addr} {o : HO} {ys : List V} {ns : List Int} {pl : Str} (hl : H l = some (.lst ys)) (h : AtX K H p ns pl) : AtX K (upd H l o) p ns pl := by
  obtain ⟨q, a, b⟩ := h
  exact ⟨q, sqT_upd hl a, sqT_upd hl b⟩
theorem tR_snoc (a : List PrI) (p : PrI) : tR (a ++ [p]) = match tR a with | some v => some v | none => if p.2 < p.1 then some (.int ((a.length : Nat) : Int)) else none := by
  unfold tR
  rw [chkR_snoc]
  cases chkR 0 0 a with
  | some z => rfl
  | none =>
    rw [Nat.zero_add]
    show (if p.2 < p.1 then some ((0 : Addr), V.int ((a.length : Nat) : Int)) else none).map (·.2) = _
    split <;> rfl
theorem Hd.ne {H : Hp} {D : Addr} {z : W3 × V} {t : Addr} {rest : List V} (hD : H D = some (.lst (.ref t :: rest))) (ht : H t = some (.lst (tV (some z)))) : t ≠ D := fun e => by
  rw [e, hD] at ht
  cases z
  cases ht
theorem okT_k {x : Str} (h : PyData.strOk x = true) : okT ((tkd x).map fun v => (W3.k, v)) := by
  intro w v hv
  obtain ⟨u, hu, hz⟩ := Option.map_eq_some_iff.mp hv
  cases hz
  unfold tkd at hu
  split at hu
  · exact nomatch hu
  · cases hu
    exact .inr (.inr ⟨x, rfl, h⟩)
theorem chkR_int {C : Addr} : ∀ {i : Nat} {r : List PrI} {c : Addr} {v : V}, chkR C i r = some (c, v) → ∃ j : Int, v = .int j
  | _, [], _, _, h => nomatch h
  | i, p :: r, c, v, h => by
    unfold chkR at h
    split at h
    · cases h
      exact ⟨_, rfl⟩
    · exact chkR_int h
theorem okT_n {r : List PrI} : okT ((tR r).map fun v => (W3.n, v)) := by
  intro w v hv
  obtain ⟨u, hu, hz⟩ := Option.map_eq_some_iff.mp hv
  cases hz
  unfold tR at hu
  obtain ⟨⟨c, v2⟩, h1, h2⟩ := Option.map_eq_some_iff.mp hu
  cases h2
  obtain ⟨j, rfl⟩ := chkR_int h1
  exact .inr (.inl ⟨j, rfl⟩)
theorem lcE_go {K : PySem.W.Frag} {σ : L2.St} {H : Hp} {ta : TA} {te : TE} {tt : TT} {g : TG} {vs : List Nat} {a : Addr} {xs : List V} {Q : VK} (h : EvA ta σ H [.ref a]) (hx : SqL K H a xs) (Pv : Hp → Addr → Nat → Hp → Prop) (h0 : ∀ G3 D, Ex H G3 → G3 D = none → Pv G3 D 0 (upd G3 D (.lst [])))
    (hG : ∀ G3 D i G, Ex H G3 → i ≤ xs.length → Pv G3 D i G → SqL K G a xs)
    (hs : ∀ G3 D i z G G', Ex H G3 → i < xs.length → Pv G3 D i G → YPair (fun i => some (V.int (i : Nat))) (fun i => xs[i]?) i G z G' → g z (wipe σ vs) G' fun σ2 H2 => wipe σ2 vs = wipe σ vs ∧ tt σ2 H2 fun b H3 =>
      if b = true then te σ2 H3 fun y H4 => ∃ acc, H4 D = some (.lst acc) ∧ acc.length < sizeLine ∧ Pv G3 D (i + 1) (upd H4 D (.lst (acc ++ [y]))) else Pv G3 D (i + 1) H3)
    (hd : ∀ G3 D G, Ex H G3 → Pv G3 D xs.length G → Q (.ref D) G) : tLc (iEnum K ta) g tt te vs σ H Q :=
  h H (Ex.refl H) _ fun H1 e1 => ⟨a, xs, rfl, ex_l e1 hx, fun D nD => lc_it walk_enum (Pv H1 D) (h0 H1 D e1 nD) (fun i G => hG H1 D i G e1) (fun i z G G' hi p y => hs H1 D i z G G' e1 hi p y) (fun G p => hd H1 D G e1 p)⟩
end Cf

namespace Cf
open PySem PySem.Spec PyProof.Rows L2 Evl
def topS (i : Nat) : Stmt := PySem.Challenge.pw_castforms_k49_errors_of_mixed_and_sums.main.body.getD i (.Pass ⟨0, 0, 0, 0⟩)
abbrev s_check_widths : Stmt := topS 21
abbrev s_check_model : Stmt := topS 22
abbrev s_check_kind : Stmt := topS 23
abbrev s_bits_of : Stmt := topS 24
abbrev s_is_unsigned : Stmt := topS 25
abbrev s_limits_of : Stmt := topS 26
abbrev s_promoted_kind : Stmt := topS 27
abbrev s_common_kind : Stmt := topS 28
abbrev s__common_of_mixed : Stmt := topS 29
abbrev s__checked_signed_one : Stmt := topS 31
abbrev s_count_wrong : Stmt := topS 32
abbrev s_first_wrong : Stmt := topS 33
abbrev s_check_ranges : Stmt := topS 35
abbrev s__ways_up_to : Stmt := topS 36
abbrev s_count_beyond : Stmt := topS 37
abbrev s__law_pool : Stmt := topS 39
abbrev s__law_draw : Stmt := topS 40
abbrev s__law_kinds : Stmt := topS 41
abbrev s__law_model : Stmt := topS 42
abbrev s__law_word : Stmt := topS 43
abbrev s__law_bad_book : Stmt := topS 44
abbrev s__law_told : Stmt := topS 45
abbrev s__law_any : Stmt := topS 46
abbrev s__law_right : Stmt := topS 47
abbrev s_law : Stmt := topS 48
abbrev i_InvalidModel : Stmt := inClass (topS 3) 0
abbrev i_InvalidType : Stmt := inClass (topS 4) 0
abbrev i_InvalidNumber : Stmt := inClass (topS 8) 0
section
variable {P : Program} {w : World} {K : PySem.W.Frag} {mg : Str → Option Value} {base : Heap} {f : Addr} {fd : FuncData}
theorem sc_init_InvalidModel : FnScope ["self", "value"] ["self", "value"] (defScope i_InvalidModel) := ⟨rfl, rfl, rfl, by decide +kernel, rfl, by decide +kernel, by decide +kernel⟩
theorem ok_init_InvalidModel (F : L2.Fun K "__init__" "InvalidModel.__init__" i_InvalidModel f fd) : FnOk P w K mg base CX0 1 f fd ["self", "value"] (spInit K) := by
  refine F.ok sc_init_InvalidModel (fun vs H Q E h => by obtain ⟨a, v, C, rfl, _⟩ := h; rfl) (fun cdv A outer s H vs Q E hr h => ?_)
  obtain ⟨a, v, C, rfl, hO, hno, ha, hQ⟩ := h
  refine ⟨_, pss_one (ps_ost (pv 0) (pv 1)), ?_⟩
  exact ⟨_, rfl, _, rfl, a, C, rfl, hO, hno, .inl ⟨ha, fun dx n1 n2 => hQ dx n1 n2⟩⟩

theorem sc_init_InvalidType : FnScope ["self", "value"] ["self", "value"] (defScope i_InvalidType) := ⟨rfl, rfl, rfl, by decide +kernel, rfl, by decide +kernel, by decide +kernel⟩
theorem ok_init_InvalidType (F : L2.Fun K "__init__" "InvalidType.__init__" i_InvalidType f fd) : FnOk P w K mg base CX0 1 f fd ["self", "value"] (spInit K) := by
  refine F.ok sc_init_InvalidType (fun vs H Q E h => by obtain ⟨a, v, C, rfl, _⟩ := h; rfl) (fun cdv A outer s H vs Q E hr h => ?_)
  obtain ⟨a, v, C, rfl, hO, hno, ha, hQ⟩ := h
  refine ⟨_, pss_one (ps_ost (pv 0) (pv 1)), ?_⟩
  exact ⟨_, rfl, _, rfl, a, C, rfl, hO, hno, .inl ⟨ha, fun dx n1 n2 => hQ dx n1 n2⟩⟩

theorem sc_init_InvalidNumber : FnScope ["self", "value"] ["self", "value"] (defScope i_InvalidNumber) := ⟨rfl, rfl, rfl, by decide +kernel, rfl, by decide +kernel, by decide +kernel⟩
theorem ok_init_InvalidNumber (F : L2.Fun K "__init__" "InvalidNumber.__init__" i_InvalidNumber f fd) : FnOk P w K mg base CX0 1 f fd ["self", "value"] (spInit K) := by
  refine F.ok sc_init_InvalidNumber (fun vs H Q E h => by obtain ⟨a, v, C, rfl, _⟩ := h; rfl) (fun cdv A outer s H vs Q E hr h => ?_)
  obtain ⟨a, v, C, rfl, hO, hno, ha, hQ⟩ := h
  refine ⟨_, pss_one (ps_ost (pv 0) (pv 1)), ?_⟩
  exact ⟨_, rfl, _, rfl, a, C, rfl, hO, hno, .inl ⟨ha, fun dx n1 n2 => hQ dx n1 n2⟩⟩

theorem sc_check_widths : FnScope ["widths", "least", "at", "bits"] ["widths"] (defScope s_check_widths) := ⟨rfl, rfl, rfl, by decide +kernel, rfl, by decide +kernel, by decide +kernel⟩
theorem ok_check_widths {CM : Addr} (D : Df K mg "check_widths" s_check_widths ["widths"] f fd) (cS : CT K mg "SIGNED" vSIGNED) (cl : CI mg "LEAST_WIDTH" 2) (cg : CI mg "GREATEST_WIDTH" 128) (xM : Xi P w K mg base "InvalidModel" CM) (cn : mg "len" = none) (ce : mg "enumerate" = none) :
    FnG P w K mg base (L2.CX P w) 3 f fd ["widths"] (PX (preCW K CM)) := by
  refine df_okX D sc_check_widths (px_len fun vs H o h => by obtain ⟨p, ns, rfl, _⟩ := h; rfl) (fun cdv A outer s H vs Q E hG hr tk h => ?_)
  obtain ⟨o, ⟨p, ns, rfl, hm, rfl⟩, h0, h1⟩ := h
  have nd := sc_check_widths.nd
  refine ⟨_, pss_cons (ps_if (pt_cmpR op_ne (pe_callB call_len_seq (by rfl) cn PySem.boot_len (pa_cons (pv 0) pa_nil)) (pe_callB call_len_seq (by rfl) cn PySem.boot_len (pa_cons (pe_ct rfl cS) pa_nil)) (nomark _)) (pss_one (ps_raiseZ rfl xM hr tk (pa_cons pe_non pa_nil) rfl)) pss_nil)
    (pss_cons (ps_set (i := 1) nd rfl (.inl rfl) (pe_ci rfl cl))
    (pss_one (ps_for PassesOwn.leaving rfl (pi_enumT rfl ce (pa_cons (pv 0) pa_nil))
      (pg_tup rfl (pgs_cons (pg_name (i := 2) nd rfl (.inl rfl)) (pgs_cons (pg_name (i := 3) nd rfl (.inl rfl)) pgs_nil)))
      (pss_cons (ps_if (PW.pt (pw_or (pt_cmpR op_lt (pv 3) (pv 1) (nomark _)) (pw_or1 (pt_cmpR op_gt (pv 3) (pe_ci rfl cg) (nomark _))))) (pss_one (ps_raiseZ rfl xM hr tk (pa_cons (pv 2) pa_nil) rfl)) pss_nil)
      (pss_one (ps_set (i := 1) nd rfl (.inl rfl) (pv 3))))))), ?_⟩
  refine ⟨_, rfl, p, ns.map V.int, rfl, .inr hm, fun aS hS => ⟨aS, vSIGNED, rfl, .inr hS, rfl, _, rfl, ?_⟩⟩
  by_cases hl : ns.length = 5
  case neg =>
    have e : (!decide (V.int ((ns.map V.int).length : Nat) = V.int (vSIGNED.length : Nat))) = true := by
      rw [decide_eq_false (fun z => hl ?_)]
      · rfl
      · have := V.int.inj z
        rw [List.length_map] at this
        have e5 : vSIGNED.length = 5 := rfl
        omega
    refine if_true_of_ e ?_
    refine s_rz ev_non_ fun H1 e1 => ?_
    refine (h1 CM .non ?_).ex e1
    unfold chkW
    rw [if_neg hl]
  case pos =>
    have e : (!decide (V.int ((ns.map V.int).length : Nat) = V.int (vSIGNED.length : Nat))) = false := by
      rw [List.length_map, hl]
      rfl
    refine if_false_of_ e ?_
    have hw : chkW CM ns = firstBad CM 2 0 ns := by
      unfold chkW
      rw [if_pos hl]
    show tSeq _ _ _ _ _
    refine q_asg ev_c fun H1 e1 => ?_
    have hm1 := ex_t e1 hm
    refine ⟨_, rfl, p, ns.map V.int, rfl, hm1, for_enumT (xs := ns.map V.int) (fun i σ H3 => Ex H1 H3 ∧ ∃ l y2 y3, σ = [some (.ref p), some (.int l), y2, y3] ∧ firstBad CM l i (ns.drop i) = firstBad CM 2 0 ns) ?_ ?_ ?_ ?_ ?_⟩
    · exact ⟨Ex.refl H1, 2, none, none, rfl, rfl⟩
    · exact fun i σ H3 _ hp => ex_t hp.1 hm1
    · exact fun i σ H3 T x hp nT => ⟨hp.1.trans (Ex.new nT), hp.2⟩
    · intro i x T σ H3 hx hp hT
      obtain ⟨e3, l, y2, y3, rfl, hb⟩ := hp
      obtain ⟨z, hz, rfl⟩ : ∃ z, ns[i]? = some z ∧ x = .int z := by
        rw [List.getElem?_map] at hx
        obtain ⟨z, a, b⟩ := Option.map_eq_some_iff.mp hx
        exact ⟨z, a, b.symm⟩
      rw [firstBad_drop hz] at hb
      refine ⟨T, _, rfl, st_of hT, rfl, _, _, rfl, _, _, rfl, rfl, ?_⟩
      refine q_when (b := decide (z < l) || decide (z > 128)) (et_or (et_test (ev_op (ev_var rfl) (ev_var rfl) rv_I0)) fun _ => et_test (ev_op (ev_var rfl) ev_c rv_I0)) (fun c H4 e4 => ?_) (fun c H4 e4 => ?_)
      · have c : z < l ∨ 128 < z := by simpa using c
        rw [if_pos c] at hb
        refine s_rz (ev_var rfl) fun H5 e5 => (h1 CM (.int (i : Nat)) ?_).ex (((e1.trans e3).trans e4).trans e5)
        rw [hw, ← hb]
      · have c : ¬ (z < l ∨ 128 < z) := by
          intro q
          have : (decide (z < l) || decide (z > 128)) = true := by simpa using q
          rw [c] at this
          exact nomatch this
        rw [if_neg c] at hb
        exact s_asg (ev_var rfl) fun H5 e5 => ⟨(e3.trans e4).trans e5, z, some (.int i), some (.int z), rfl, hb⟩
    · intro σ H3 hp
      obtain ⟨e3, l, y2, y3, rfl, hb⟩ := hp
      rw [List.length_map, List.drop_length] at hb
      exact h0 (by rw [hw, ← hb]; rfl) _ H3 (e1.trans e3)

theorem sc_check_model : FnScope ["model", "widths", "plain"] ["model"] (defScope s_check_model) := ⟨rfl, rfl, rfl, by decide +kernel, rfl, by decide +kernel, by decide +kernel⟩
theorem ok_check_model {CM : Addr} (D : Df K mg "check_model" s_check_model ["model"] f fd) (cw : ClX P w K mg base 3 "check_widths" ["widths"] (PX (preCW K CM))) (cP : CT K mg "PLAIN_SIGNS" vPLAIN) (xM : Xi P w K mg base "InvalidModel" CM) :
    FnG P w K mg base (L2.CX P w) 4 f fd ["model"] (PX (preCM K CM)) := by
  refine df_okX D sc_check_model (px_len fun vs H o h => by obtain ⟨p, ns, pl, rfl, _⟩ := h; rfl) (fun cdv A outer s H vs Q E hG hr tk h => ?_)
  obtain ⟨o, ⟨p, ns, pl, rfl, ⟨q, g1, g2⟩, rfl⟩, h0, h1⟩ := h
  have nd := sc_check_model.nd
  refine ⟨_, pss_cons (ps_asg (pv 0) (pg_tup rfl (pgs_cons (pg_name (i := 1) nd rfl (.inl rfl)) (pgs_cons (pg_name (i := 2) nd rfl (.inl rfl)) pgs_nil))))
    (pss_cons (ps_expr (pe_clX cw hG hr tk rfl (pa_cons (pv 1) pa_nil)))
    (pss_one (ps_if (pt_cmpR op_notIn_seq (pv 2) (pe_ct rfl cP) (by rfl)) (pss_one (ps_raiseZ rfl xM hr tk (pa_cons pe_non pa_nil) rfl)) pss_nil))), ?_⟩
  refine ⟨_, rfl, p, _, rfl, g1, rfl, _, _, rfl, _, _, rfl, rfl, ?_⟩
  refine q_dropX (o := chkW CM ns) (ea_cons (ev_var rfl) ea_nil) (fun H1 e1 => ⟨q, ns, rfl, ex_t e1 g2, rfl⟩) (fun z H1 e1 => ?_) (fun C v z H1 e1 => ?_)
  · refine s_when (b := !plOk pl) (et_test (ev_ct (ev_var rfl) (z := .bl (!plOk pl)) fun a H2 e2 t => rv_niT t rfl rfl)) (fun c H2 e2 => ?_) (fun c H2 e2 => ?_)
    · have c : plOk pl = false := by simpa using c
      refine s_rz ev_non_ fun H5 e5 => (h1 CM .non ?_).ex ((e1.trans e2).trans e5)
      unfold chkM
      rw [z]
      show (if plOk pl then none else some (CM, V.non)) = _
      rw [c]
      rfl
    · have c : plOk pl = true := by simpa using c
      refine h0 ?_ _ H2 (e1.trans e2)
      unfold chkM
      rw [z]
      show (if plOk pl then none else some (CM, V.non)) = _
      rw [c]
      rfl
  · refine (h1 C v ?_).ex e1
    unfold chkM
    rw [z]

theorem sc_check_kind : FnScope ["kind"] ["kind"] (defScope s_check_kind) := ⟨rfl, rfl, rfl, by decide +kernel, rfl, by decide +kernel, by decide +kernel⟩
theorem ok_check_kind {CK : Addr} (D : Df K mg "check_kind" s_check_kind ["kind"] f fd) (cK : CT K mg "KINDS" vKINDS) (xK : Xi P w K mg base "InvalidType" CK) : FnG P w K mg base (L2.CX P w) 3 f fd ["kind"] (PX (preCK CK)) := by
  refine df_okX D sc_check_kind (px_len fun vs H o h => by obtain ⟨x, rfl, _⟩ := h; rfl) (fun cdv A outer s H vs Q E hG hr tk h => ?_)
  obtain ⟨o, ⟨x, rfl, rfl⟩, h0, h1⟩ := h
  refine ⟨_, pss_one (ps_if (pt_cmpR op_notIn_seq (pv 0) (pe_ct rfl cK) (by rfl)) (pss_one (ps_raiseZ rfl xK hr tk (pa_cons (pv 0) pa_nil) rfl)) pss_nil), ?_⟩
  refine s_when (b := !kdOk x) (et_test (ev_ct (ev_var rfl) (z := .bl (!kdOk x)) fun a H2 e2 t => rv_niT t rfl rfl)) (fun c H1 e1 => ?_) (fun c H1 e1 => ?_)
  · have c : kdOk x = false := by simpa using c
    refine s_rz (ev_var rfl) fun H5 e5 => (h1 CK (.str x) ?_).ex (e1.trans e5)
    unfold chkK
    rw [c]
    rfl
  · have c : kdOk x = true := by simpa using c
    exact h0 (by unfold chkK; rw [c]; rfl) _ H1 e1

theorem sc_bits_of : FnScope ["model", "kind"] ["model", "kind"] (defScope s_bits_of) := ⟨rfl, rfl, rfl, by decide +kernel, rfl, by decide +kernel, by decide +kernel⟩
theorem ok_bits_of (D : Df K mg "bits_of" s_bits_of ["model", "kind"] f fd) (cR : CR5 K w mg) :
    FnG P w K mg base CX0 1 f fd ["model", "kind"] (PV (preMK K fun m k => .int (m.b k))) := by
  refine df_ok D sc_bits_of (pre_len1 fun vs H v h => by obtain ⟨p, m, k, rfl, _⟩ := h; rfl) (fun cdv A outer s H vs Q E hG hr h => ?_)
  obtain ⟨v, ⟨p, m, k, rfl, hm, ho, rfl⟩, hQ⟩ := h
  obtain ⟨aR, gR, tR⟩ := cR
  obtain ⟨q, h1, h2⟩ := hm
  refine ⟨_, pss_one (ps_ret (pe_ix ix_tup (pe_ix ix_tup (pv 0) pe_int (fun _ _ => rfl)) (pe_ix ix_kdict (pe_glob (v := .ref aR) rfl gR rfl) (pv 1) (fun _ _ => rfl)) (fun _ _ => rfl))), ?_⟩
  refine s_ret (ev_op (ev_op (ev_var rfl) ev_c (rv_ixT h1 (atI_nat (j := 0) rfl))) (ev_op ev_c (ev_var rfl) (z := .int k.rk) ?_) (rv_ixT h2 (atI_nat (j := k.rk) (Md.at_ k.rk_lt)))) hQ
  exact fun H1 _ Q1 q1 => ⟨aR, k.s, _, rfl, rfl, tR k, q1 H1 (Ex.refl H1)⟩

theorem sc_is_unsigned : FnScope ["model", "kind"] ["model", "kind"] (defScope s_is_unsigned) := ⟨rfl, rfl, rfl, by decide +kernel, rfl, by decide +kernel, by decide +kernel⟩
theorem ok_is_unsigned (D : Df K mg "is_unsigned" s_is_unsigned ["model", "kind"] f fd) (cU : CT K mg "UNSIGNED" vUNSIGNED) :
    FnG P w K mg base CX0 1 f fd ["model", "kind"] (PV (preMK K fun m k => .bl (m.un k))) := by
  refine df_ok D sc_is_unsigned (pre_len1 fun vs H v h => by obtain ⟨p, m, k, rfl, _⟩ := h; rfl) (fun cdv A outer s H vs Q E hG hr h => ?_)
  obtain ⟨v, ⟨p, m, k, rfl, hm, ho, rfl⟩, hQ⟩ := h
  obtain ⟨q, h1, h2⟩ := hm
  refine ⟨_, pss_cons (ps_if (pt_cmpR op_eq (pv 1) pe_str (nomark _)) (pss_one (ps_ret (pe_cmpR op_eq (pe_ix ix_tup (pv 0) pe_int (fun _ _ => rfl)) pe_str (nomark _)))) pss_nil)
    (pss_one (ps_ret (pe_cmpR op_in_seq (pv 1) (pe_ct rfl cU) (by rfl)))), ?_⟩
  refine q_when (b := decide (k = .ch)) (et_is (et_test (ev_op (ev_var rfl) ev_c (rv_eq rfl))) ?_) (fun hb H1 e1 => ?_) (fun hb H1 e1 => ?_)
  · cases k <;> decide +kernel
  · have hk : k = .ch := of_decide_eq_true hb
    subst hk
    refine s_ret (ev_is (ev_op (ev_op (ev_var rfl) ev_c (rv_ixT (ex_t e1 h1) (atI_nat (j := 1) rfl))) ev_c (rv_eq rfl)) ?_) fun H2 e2 => hQ H2 (e1.trans e2)
    show V.bl (decide (V.str (plS m.u) = V.str "u")) = V.bl m.u
    cases m.u <;> decide +kernel
  · refine s_ret (ev_ct (ev_var rfl) (z := .bl (m.un k)) fun a H2 e2 t => ?_) fun H2 e2 => hQ H2 (e1.trans e2)
    have hz : V.bl (inV k.v vUNSIGNED) = V.bl (m.un k) := by
      cases k <;> first | rfl | (exact absurd hb (by decide))
    rw [← hz]
    exact rv_isT t rfl rfl

theorem sc_limits_of : FnScope ["model", "kind", "bits"] ["model", "kind"] (defScope s_limits_of) := ⟨rfl, rfl, rfl, by decide +kernel, rfl, by decide +kernel, by decide +kernel⟩
theorem ok_limits_of (D : Df K mg "limits_of" s_limits_of ["model", "kind"] f fd) (cb : Cl P w K mg base 1 "bits_of" ["model", "kind"] (PV (preMK K fun m k => .int (m.b k))))
    (cu : Cl P w K mg base 1 "is_unsigned" ["model", "kind"] (PV (preMK K fun m k => .bl (m.un k)))) :
    FnG P w K mg base CX0 2 f fd ["model", "kind"] (PU (preMU K fun m k => [.int (m.low k), .int (m.high k)])) := by
  refine df_ok D sc_limits_of (pre_lenU fun vs H v h => by obtain ⟨p, m, k, rfl, _⟩ := h; rfl) (fun cdv A outer s H vs Q E hG hr h => ?_)
  obtain ⟨v, ⟨p, m, k, rfl, hm, ho, rfl⟩, hQ⟩ := h
  obtain ⟨b0, b1⟩ := ho.b k
  refine ⟨_, pss_cons (ps_set (i := 2) sc_limits_of.nd rfl (.inl rfl) (pe_cl cb hG hr rfl (pa_cons (pv 0) (pa_cons (pv 1) pa_nil))))
    (pss_cons (ps_if (pt_val (pe_cl cu hG hr rfl (pa_cons (pv 0) (pa_cons (pv 1) pa_nil))))
        (pss_one (ps_ret (pe_tup (pa_cons pe_int (pa_cons (pe_op op_sub (pe_op op_shl pe_int (pv 2)) pe_int) pa_nil))))) pss_nil)
    (pss_one (ps_ret (pe_tup (pa_cons (pe_un un_neg (pe_op op_shl pe_int (pe_op op_sub (pv 2) pe_int))) (pa_cons (pe_op op_sub (pe_op op_shl pe_int (pe_op op_sub (pv 2) pe_int)) pe_int) pa_nil)))))), ?_⟩
  refine q_asg (ev_call (ea_cons (ev_var rfl) (ea_cons (ev_var rfl) ea_nil)) (spMK hm ho)) fun H1 e1 => ?_
  have hm1 := hm.ex e1
  have e2b : ∀ {H}, Ev (tOp (rI0 fun i j => .int (i - j)) (tVar 2) (tC (.int 1))) [some (.ref p), some k.v, some (.int (m.b k))] H (.int ((m.b k - 1 : Nat) : Int)) := fun {H} =>
    ev_is (ev_op (ev_var rfl) ev_c rv_I0) (by congr 1; omega)
  refine q_when (et_B (ev_call (ea_cons (ev_var rfl) (ea_cons (ev_var rfl) ea_nil)) (spMK hm1 ho))) (fun hb H2 e2 => ?_) (fun hb H2 e2 => ?_)
  · refine s_retU (xs := [.int (m.low k), .int (m.high k)]) ?_ fun t H3 n3 e3 h3 => hQ t H3 (fresh_back (e1.trans e2) n3) ((e1.trans e2).trans e3) h3
    refine eu_tup (ea_cons (ev_is ev_c ?_) (ea_cons (ev_is (ev_op (shl1 b1 ev_c (ev_var rfl)) ev_c rv_I0) ?_) ea_nil)) (by show 2 ≤ 100000; decide)
    · unfold Md.low
      rw [if_pos hb]
    · unfold Md.high
      rw [if_pos hb]
  · refine s_retU (xs := [.int (m.low k), .int (m.high k)]) ?_ fun t H3 n3 e3 h3 => hQ t H3 (fresh_back (e1.trans e2) n3) ((e1.trans e2).trans e3) h3
    have hs := shl1 (b := m.b k - 1) (σ := [some (.ref p), some k.v, some (.int (m.b k))]) (H := H2) (by omega) (ta := tC (.int 1)) ev_c e2b
    refine eu_tup (ea_cons (ev_is (ev_un hs ru_neg) ?_) (ea_cons (ev_is (ev_op hs ev_c rv_I0) ?_) ea_nil)) (by show 2 ≤ 100000; decide)
    · unfold Md.low
      rw [if_neg (by rw [hb]; decide)]
    · unfold Md.high
      rw [if_neg (by rw [hb]; decide)]

theorem sc_promoted_kind : FnScope ["model", "kind"] ["model", "kind"] (defScope s_promoted_kind) := ⟨rfl, rfl, rfl, by decide +kernel, rfl, by decide +kernel, by decide +kernel⟩
theorem ok_promoted_kind (D : Df K mg "promoted_kind" s_promoted_kind ["model", "kind"] f fd) (cR : CR5 K w mg) (cI : CI mg "INT_RANK" 2) (cu : Cl P w K mg base 1 "is_unsigned" ["model", "kind"] (PV (preMK K fun m k => .bl (m.un k))))
    (cb : Cl P w K mg base 1 "bits_of" ["model", "kind"] (PV (preMK K fun m k => .int (m.b k)))) : FnG P w K mg base CX0 2 f fd ["model", "kind"] (PV (preMK K fun m k => (m.prom k).v)) := by
  refine df_ok D sc_promoted_kind (pre_len1 fun vs H v h => by obtain ⟨p, m, k, rfl, _⟩ := h; rfl) (fun cdv A outer s H vs Q E hG hr h => ?_)
  obtain ⟨v, ⟨p, m, k, rfl, hm, ho, rfl⟩, hQ⟩ := h
  obtain ⟨aR, gR, tR⟩ := cR
  refine ⟨_, pss_cons (ps_if (pt_cmpR op_ge (pe_ix ix_kdict (pe_glob (v := .ref aR) rfl gR rfl) (pv 1) (fun _ _ => rfl)) (pe_ci rfl cI) (nomark _)) (pss_one (ps_ret (pv 1))) pss_nil)
    (pss_cons (ps_if (PW.pt (pw_and (pt_val (pe_cl cu hG hr rfl (pa_cons (pv 0) (pa_cons (pv 1) pa_nil)))) (pw_and1 (pt_cmpR op_ge (pe_cl cb hG hr rfl (pa_cons (pv 0) (pa_cons (pv 1) pa_nil))) (pe_cl cb hG hr rfl (pa_cons (pv 0) (pa_cons pe_str pa_nil))) (nomark _)))))
        (pss_one (ps_ret pe_str)) pss_nil)
    (pss_one (ps_ret pe_str))), ?_⟩
  refine q_when (et_test (ev_op (ev_rk tR (ev_var rfl)) ev_c rv_I0)) (fun hb H1 e1 => ?_) (fun hb H1 e1 => ?_)
  · have h2 : (2 : Int) ≤ (k.rk : Nat) := of_decide_eq_true hb
    have e : m.prom k = k := by
      unfold Md.prom
      rw [if_pos (by omega)]
    dsimp only at hQ
    rw [e] at hQ
    exact s_ret (ev_var rfl) fun H2 e2 => hQ H2 (e1.trans e2)
  · have h2 : ¬ (2 : Int) ≤ (k.rk : Nat) := of_decide_eq_false hb
    have e : m.prom k = if m.un k = true ∧ m.b .it ≤ m.b k then .ui else .it := by
      unfold Md.prom
      rw [if_neg (by omega)]
    have hm1 := hm.ex e1
    refine q_when (b := decide (m.un k = true ∧ m.b .it ≤ m.b k)) (et_is (et_and (et_B (ev_mk hm1 ho rfl rfl)) fun _ => et_test (ev_op (ev_mk hm1 ho rfl rfl) (ev_call (ea_cons (ev_var rfl) (ea_cons ev_c ea_nil)) (spMK (k := .it) hm1 ho)) rv_I0)) ?_) (fun hb2 H2 e2 => ?_) (fun hb2 H2 e2 => ?_)
    · cases m.un k
      · simp
      · simp
    · dsimp only at hQ
      rw [e, if_pos (of_decide_eq_true hb2)] at hQ
      exact s_ret ev_c fun H3 e3 => hQ H3 ((e1.trans e2).trans e3)
    · dsimp only at hQ
      rw [e, if_neg (of_decide_eq_false hb2)] at hQ
      exact s_ret ev_c fun H3 e3 => hQ H3 ((e1.trans e2).trans e3)

theorem sc__common_of_mixed : FnScope ["model", "unsigned", "signed"] ["model", "unsigned", "signed"] (defScope s__common_of_mixed) := ⟨rfl, rfl, rfl, by decide +kernel, rfl, by decide +kernel, by decide +kernel⟩
theorem ok__common_of_mixed (D : Df K mg "_common_of_mixed" s__common_of_mixed ["model", "unsigned", "signed"] f fd) (cR : CR5 K w mg) (cU : CT K mg "UNSIGNED" vUNSIGNED)
    (cb : Cl P w K mg base 1 "bits_of" ["model", "kind"] (PV (preMK K fun m k => .int (m.b k)))) : FnG P w K mg base CX0 2 f fd ["model", "unsigned", "signed"] (PV (preMKK K fun m a b => (m.mix a b).v)) := by
  refine df_ok D sc__common_of_mixed (pre_len1 fun vs H v h => by obtain ⟨p, m, k, l, rfl, _⟩ := h; rfl) (fun cdv A outer s H vs Q E hG hr h => ?_)
  obtain ⟨v, ⟨p, m, a, b, rfl, hm, ho, rfl⟩, hQ⟩ := h
  obtain ⟨aR, gR, tR⟩ := cR
  refine ⟨_, pss_cons (ps_if (pt_cmpR op_ge (pe_ix ix_kdict (pe_glob (v := .ref aR) rfl gR rfl) (pv 1) (fun _ _ => rfl)) (pe_ix ix_kdict (pe_glob (v := .ref aR) rfl gR rfl) (pv 2) (fun _ _ => rfl)) (nomark _)) (pss_one (ps_ret (pv 1))) pss_nil)
    (pss_cons (ps_if (pt_cmpR op_lt (pe_cl cb hG hr rfl (pa_cons (pv 0) (pa_cons (pv 1) pa_nil))) (pe_cl cb hG hr rfl (pa_cons (pv 0) (pa_cons (pv 2) pa_nil))) (nomark _)) (pss_one (ps_ret (pv 2))) pss_nil)
    (pss_one (ps_ret (pe_ix ix_tup (pe_ct rfl cU) (pe_ix ix_kdict (pe_glob (v := .ref aR) rfl gR rfl) (pv 2) (fun _ _ => rfl)) (fun _ _ => rfl))))), ?_⟩
  dsimp only at hQ
  refine q_when (et_test (ev_op (ev_rk tR (ev_var rfl)) (ev_rk tR (ev_var rfl)) rv_I0)) (fun hb H1 e1 => ?_) (fun hb H1 e1 => ?_)
  · have h2 : ((b.rk : Nat) : Int) ≤ (a.rk : Nat) := of_decide_eq_true hb
    have e : m.mix a b = a := by
      unfold Md.mix
      rw [if_pos (by omega)]
    rw [e] at hQ
    exact s_ret (ev_var rfl) fun H2 e2 => hQ H2 (e1.trans e2)
  · have h2 : ¬ ((b.rk : Nat) : Int) ≤ (a.rk : Nat) := of_decide_eq_false hb
    have e : m.mix a b = if m.b a < m.b b then b else uKd b.rk := by
      unfold Md.mix
      rw [if_neg (by omega)]
    have hm1 := hm.ex e1
    refine q_when (et_test (ev_op (ev_mk hm1 ho rfl rfl) (ev_mk hm1 ho rfl rfl) rv_I0)) (fun hb2 H2 e2 => ?_) (fun hb2 H2 e2 => ?_)
    · have h3 : ((m.b a : Nat) : Int) < (m.b b : Nat) := of_decide_eq_true hb2
      rw [e, if_pos (by omega)] at hQ
      exact s_ret (ev_var rfl) fun H3 e3 => hQ H3 ((e1.trans e2).trans e3)
    · have h3 : ¬ ((m.b a : Nat) : Int) < (m.b b : Nat) := of_decide_eq_false hb2
      rw [e, if_neg (by omega)] at hQ
      refine s_ret (v := (uKd b.rk).v) (fun H3 e3 Q1 q1 aU hU => ?_) fun H3 e3 => hQ H3 ((e1.trans e2).trans e3)
      exact (ev_rk tR (ev_var rfl)) H3 (Ex.refl H3) _ fun H4 e4 => ⟨aU, _, _, _, rfl, rfl, ex_t e4 hU, atI_nat (j := b.rk) (by cases b <;> rfl), q1 H4 e4⟩

theorem sc_common_kind : FnScope ["model", "first", "second", "one", "other"] ["model", "first", "second"] (defScope s_common_kind) := ⟨rfl, rfl, rfl, by decide +kernel, rfl, by decide +kernel, by decide +kernel⟩
theorem ok_common_kind (D : Df K mg "common_kind" s_common_kind ["model", "first", "second"] f fd) (cR : CR5 K w mg) (cp : Cl P w K mg base 2 "promoted_kind" ["model", "kind"] (PV (preMK K fun m k => (m.prom k).v)))
    (cu : Cl P w K mg base 1 "is_unsigned" ["model", "kind"] (PV (preMK K fun m k => .bl (m.un k)))) (cx : Cl P w K mg base 2 "_common_of_mixed" ["model", "unsigned", "signed"] (PV (preMKK K fun m a b => (m.mix a b).v))) :
    FnG P w K mg base CX0 3 f fd ["model", "first", "second"] (PV (preMKK K fun m k l => (m.com k l).v)) := by
  refine df_ok D sc_common_kind (pre_len1 fun vs H v h => by obtain ⟨p, m, k, l, rfl, _⟩ := h; rfl) (fun cdv A outer s H vs Q E hG hr h => ?_)
  obtain ⟨v, ⟨p, m, k, l, rfl, hm, ho, rfl⟩, hQ⟩ := h
  obtain ⟨aR, gR, tR⟩ := cR
  have nd := sc_common_kind.nd
  refine ⟨_, pss_cons (ps_par (i := 3) (j := 4) rfl nd rfl rfl (by decide) rfl rfl (pa_cons (pe_cl cp hG hr rfl (pa_cons (pv 0) (pa_cons (pv 1) pa_nil))) (pa_cons (pe_cl cp hG hr rfl (pa_cons (pv 0) (pa_cons (pv 2) pa_nil))) pa_nil)) (by rfl))
    (pss_cons (ps_if (pt_cmpR op_eq (pe_cl cu hG hr rfl (pa_cons (pv 0) (pa_cons (pv 3) pa_nil))) (pe_cl cu hG hr rfl (pa_cons (pv 0) (pa_cons (pv 4) pa_nil))) (nomark _))
        (pss_one (ps_ret (pe_ifExp (pt_cmpR op_ge (pe_ix ix_kdict (pe_glob (v := .ref aR) rfl gR rfl) (pv 3) (fun _ _ => rfl)) (pe_ix ix_kdict (pe_glob (v := .ref aR) rfl gR rfl) (pv 4) (fun _ _ => rfl)) (nomark _)) (pv 3) (pv 4)))) pss_nil)
    (pss_cons (ps_if (pt_val (pe_cl cu hG hr rfl (pa_cons (pv 0) (pa_cons (pv 3) pa_nil)))) (pss_one (ps_ret (pe_cl cx hG hr rfl (pa_cons (pv 0) (pa_cons (pv 3) (pa_cons (pv 4) pa_nil)))))) pss_nil)
    (pss_one (ps_ret (pe_cl cx hG hr rfl (pa_cons (pv 0) (pa_cons (pv 4) (pa_cons (pv 3) pa_nil)))))))), ?_⟩
  dsimp only at hQ
  refine q_par (ev_mk hm ho rfl rfl) (ev_mk hm ho rfl rfl) fun H1 e1 => ?_
  have hm1 := hm.ex e1
  unfold Md.com at hQ
  generalize m.prom k = a at hQ ⊢
  generalize m.prom l = b at hQ ⊢
  refine q_when (b := decide (m.un a = m.un b)) (et_is (et_test (ev_op (ev_mk hm1 ho rfl rfl) (ev_mk hm1 ho rfl rfl) (rv_eq rfl))) ?_) (fun hb H2 e2 => ?_) (fun hb H2 e2 => ?_)
  · cases m.un a <;> cases m.un b <;> decide
  · have e : m.com2 a b = if b.rk ≤ a.rk then a else b := by
      unfold Md.com2
      rw [if_pos (of_decide_eq_true hb)]
    rw [e] at hQ
    refine s_ret (ev_if (et_test (ev_op (ev_rk tR (ev_var rfl)) (ev_rk tR (ev_var rfl)) rv_I0)) (fun hc => ev_is (ev_var rfl) ?_) (fun hc => ev_is (ev_var rfl) ?_)) fun H3 e3 => hQ H3 ((e1.trans e2).trans e3)
    · have h3 : ((b.rk : Nat) : Int) ≤ (a.rk : Nat) := of_decide_eq_true hc
      rw [if_pos (by omega)]
    · have h3 : ¬ ((b.rk : Nat) : Int) ≤ (a.rk : Nat) := of_decide_eq_false hc
      rw [if_neg (by omega)]
  · have e : m.com2 a b = if m.un a = true then m.mix a b else m.mix b a := by
      unfold Md.com2
      rw [if_neg (of_decide_eq_false hb)]
    rw [e] at hQ
    have hm2 := hm1.ex e2
    refine q_when (et_B (ev_mk hm2 ho rfl rfl)) (fun hc H3 e3 => ?_) (fun hc H3 e3 => ?_)
    · rw [if_pos hc] at hQ
      exact s_ret (ev_call (ea_cons (ev_var rfl) (ea_cons (ev_var rfl) (ea_cons (ev_var rfl) ea_nil))) (spMKK (hm2.ex e3) ho)) fun H4 e4 => hQ H4 (((e1.trans e2).trans e3).trans e4)
    · rw [if_neg (by rw [hc]; decide)] at hQ
      exact s_ret (ev_call (ea_cons (ev_var rfl) (ea_cons (ev_var rfl) (ea_cons (ev_var rfl) ea_nil))) (spMKK (hm2.ex e3) ho)) fun H4 e4 => hQ H4 (((e1.trans e2).trans e3).trans e4)

theorem sc__checked_signed_one : FnScope ["model", "first", "second", "kind"] ["model", "first", "second"] (defScope s__checked_signed_one) := ⟨rfl, rfl, rfl, by decide +kernel, rfl, by decide +kernel, by decide +kernel⟩
theorem ok__checked_signed_one {CM CK : Addr} (D : Df K mg "_checked_signed_one" s__checked_signed_one ["model", "first", "second"] f fd) (cm : ClX P w K mg base 4 "check_model" ["model"] (PX (preCM K CM))) (ck : ClX P w K mg base 3 "check_kind" ["kind"] (PX (preCK CK)))
    (cu : Cl P w K mg base 1 "is_unsigned" ["model", "kind"] (PV (preMK K fun m k => .bl (m.un k)))) (cc : Cl P w K mg base 3 "common_kind" ["model", "first", "second"] (PV (preMKK K fun m k l => (m.com k l).v))) :
    FnG P w K mg base (L2.CX P w) 5 f fd ["model", "first", "second"] (PXr isSg (preMXX K CM CK)) := by
  refine df_okX D sc__checked_signed_one (pxr_len fun vs H o h => by obtain ⟨p, ns, pl, x, y, rfl, _⟩ := h; rfl) (fun cdv A outer s H vs Q E hG hr tk h => ?_)
  obtain ⟨o, ⟨p, ns, pl, x, y, rfl, hm, rfl⟩, h0, h1⟩ := h
  have nd := sc__checked_signed_one.nd
  refine ⟨_, (pss_cons (ps_expr (pe_clX cm hG hr tk rfl (pa_cons (pv 0) pa_nil))) (pss_cons (ps_expr (pe_clX ck hG hr tk rfl (pa_cons (pv 1) pa_nil))) (pss_cons (ps_expr (pe_clX ck hG hr tk rfl (pa_cons (pv 2) pa_nil))) (pss_cons (ps_if (pt_not (pt_val (pe_cl cu hG hr rfl (pa_cons (pv 0) (pa_cons (pe_cl cc hG hr rfl (pa_cons (pv 0) (pa_cons (pv 1) (pa_cons (pv 2) pa_nil)))) pa_nil))))) (pss_one (ps_ret pe_non)) pss_nil) (pss_cons (ps_for PassesOwn.leaving rfl (pi_tup (pe_tup (pa_cons (pv 1) (pa_cons (pv 2) pa_nil)))) (pg_name (i := 3) nd rfl (.inl rfl)) (pss_one (ps_if (pt_not (pt_val (pe_cl cu hG hr rfl (pa_cons (pv 0) (pa_cons (pv 3) pa_nil))))) (pss_one (ps_ret (pv 3))) pss_nil))) (pss_one (ps_ret pe_non))))))), ?_⟩
  refine q_dropX (o := chkM CM ns pl) (ea_cons (ev_var rfl) ea_nil) (fun H1 e1 => ⟨p, ns, pl, rfl, hm.ex e1, rfl⟩) (fun z H1 e1 => ?_) (fun C v z H1 e1 => (h1 C v (by rw [z]; rfl)).ex e1)
  refine q_dropX (o := chkK CK x) (ea_cons (ev_var rfl) ea_nil) (fun H2 e2 => ⟨x, rfl, rfl⟩) (fun z2 H2 e2 => ?_) (fun C v z2 H2 e2 => (h1 C v (by rw [z, z2]; rfl)).ex (e1.trans e2))
  refine q_dropX (o := chkK CK y) (ea_cons (ev_var rfl) ea_nil) (fun H3 e3 => ⟨y, rfl, rfl⟩) (fun z3 H3 e3 => ?_) (fun C v z3 H3 e3 => (h1 C v (by rw [z, z2]; exact z3)).ex ((e1.trans e2).trans e3))
  obtain ⟨m, ho, hm⟩ := hm.m z
  obtain ⟨k, rfl⟩ := chkK_ok z2
  obtain ⟨l, rfl⟩ := chkK_ok z3
  have hz : andThen (chkM CM ns pl) (andThen (chkK CK k.s) (chkK CK l.s)) = none := by rw [z, z2]; exact z3
  have fin : ∀ {v : V} {G : Hp}, isSg v → Ex H G → Q v G := fun r e => h0 hz _ _ r e
  have e03 := (e1.trans e2).trans e3
  have hm3 := hm.ex e03
  refine q_when (b := !m.un (m.com k l)) (et_not (et_B (ev_call (ea_cons (ev_var rfl) (ea_cons (ev_call (ea_cons (ev_var rfl) (ea_cons (ev_var rfl) (ea_cons (ev_var rfl) ea_nil))) (spMKK (k := k) (l := l) hm3 ho)) ea_nil)) (spMK (k := m.com k l) hm3 ho)))) (fun hb H4 e4 => s_ret ev_c fun H5 e5 => fin (.inl rfl) (e03.trans (e4.trans e5))) (fun hb H4 e4 => ?_)
  have hm4 := hm3.ex e4
  have e04 := e03.trans e4
  refine q_forNT (xs := [k.v, l.v]) (eu_tup (ea_cons (ev_var rfl) (ea_cons (ev_var rfl) ea_nil)) (by show 2 ≤ 100000; decide)) (fun t i σ G => Ex H4 G ∧ G t = some (.tup [k.v, l.v]) ∧ ∃ y3, σ = [some (.ref p), some k.v, some l.v, y3]) (fun t G nt e ht => ⟨e, ht, none, rfl⟩) (fun t i σ G _ h => st_of h.2.1) ?_ ?_
  · intro t i z σ G hx hp
    obtain ⟨eG, ht, y3, rfl⟩ := hp
    dsimp only [List.set]
    obtain ⟨kk, rfl⟩ : ∃ kk : Kd, z = kk.v := by
      match i, hx with
      | 0, hx => exact ⟨k, (Option.some.inj hx).symm⟩
      | 1, hx => exact ⟨l, (Option.some.inj hx).symm⟩
      | i + 2, hx => exact nomatch hx
    refine s_when (b := !m.un kk) (et_not (et_B (ev_mk (k := kk) (hm4.ex eG) ho rfl rfl))) (fun hb G2 e2 => s_ret (ev_var rfl) fun G3 e3 => fin (.inr ⟨kk, rfl⟩) (e04.trans (eG.trans (e2.trans e3)))) (fun hb G2 e2 => ⟨eG.trans e2, e2 _ _ ht, _, rfl⟩)
  · intro t σ G hp
    obtain ⟨eG, ht, y3, rfl⟩ := hp
    exact s_ret ev_c fun G3 e3 => fin (.inl rfl) (e04.trans (eG.trans e3))

theorem sc_count_wrong : FnScope ["model", "first", "second", "signed", "many", "greatest", "integers_below"] ["model", "first", "second"] (defScope s_count_wrong) := ⟨rfl, rfl, rfl, by decide +kernel, rfl, by decide +kernel, by decide +kernel⟩
theorem ok_count_wrong {CM CK : Addr} (D : Df K mg "count_wrong" s_count_wrong ["model", "first", "second"] f fd) (cs : ClX P w K mg base 5 "_checked_signed_one" ["model", "first", "second"] (PXr isSg (preMXX K CM CK))) (cl : Cl P w K mg base 2 "limits_of" ["model", "kind"] (PU (preMU K fun m k => [.int (m.low k), .int (m.high k)])))
    (cb : Cl P w K mg base 1 "bits_of" ["model", "kind"] (PV (preMK K fun m k => .int (m.b k)))) (cc : Cl P w K mg base 3 "common_kind" ["model", "first", "second"] (PV (preMKK K fun m k l => (m.com k l).v))) :
    FnG P w K mg base (L2.CX P w) 6 f fd ["model", "first", "second"] (PX (preMXX K CM CK)) := by
  refine df_okX D sc_count_wrong (px_len fun vs H o h => by obtain ⟨p, ns, pl, x, y, rfl, _⟩ := h; rfl) (fun cdv A outer s H vs Q E hG hr tk h => ?_)
  obtain ⟨o, ⟨p, ns, pl, x, y, rfl, hm, rfl⟩, h0, h1⟩ := h
  have nd := sc_count_wrong.nd
  refine ⟨_, (pss_cons (ps_set (i := 3) nd rfl (.inl rfl) (pe_clX cs hG hr tk rfl (pa_cons (pv 0) (pa_cons (pv 1) (pa_cons (pv 2) pa_nil))))) (pss_cons (ps_if (pt_cmpR op_isN (pv 3) pe_non (nomark _)) (pss_one (ps_ret pe_int)) pss_nil) (pss_cons (ps_set (i := 4) nd rfl (.inl rfl) (pe_un un_neg (pe_ix ix_tup (pe_cl cl hG hr rfl (pa_cons (pv 0) (pa_cons (pv 3) pa_nil))) pe_int (fun _ _ => rfl)))) (pss_cons (ps_set (i := 5) nd rfl (.inl rfl) (pe_op op_sub (pe_op op_shl pe_int (pe_cl cb hG hr rfl (pa_cons (pv 0) (pa_cons (pe_cl cc hG hr rfl (pa_cons (pv 0) (pa_cons (pv 1) (pa_cons (pv 2) pa_nil)))) pa_nil)))) pe_int)) (pss_cons (ps_set (i := 6) nd rfl (.inl rfl) (pe_op op_fdiv (pe_op op_mulW (pv 4) (pe_op op_add (pe_op op_sub (pe_op op_mul pe_int (pv 5)) (pv 4)) pe_int)) pe_int)) (pss_one (ps_ret (pe_ifExp (pt_cmpR op_eq (pv 3) (pv 1) (nomark _)) (pe_op op_add (pv 6) (pv 4)) (pv 6))))))))), ?_⟩
  refine q_asgXr (o := andThen (chkM CM ns pl) (andThen (chkK CK x) (chkK CK y))) (ea_cons (ev_var rfl) (ea_cons (ev_var rfl) (ea_cons (ev_var rfl) ea_nil))) (fun H1 e1 => ⟨p, ns, pl, x, y, rfl, hm.ex e1, rfl⟩) (fun z v H1 rv e1 => ?_) (fun C v z H1 e1 => (h1 C v z).ex e1)
  have zz := z
  unfold andThen at zz
  have z1 : chkM CM ns pl = none := by cases q : chkM CM ns pl with | none => rfl | some _ => rw [q] at zz; exact nomatch zz
  rw [z1] at zz
  have z2 : chkK CK x = none := by cases q : chkK CK x with | none => rfl | some _ => rw [q] at zz; exact nomatch zz
  rw [z2] at zz
  obtain ⟨m, ho, hm1⟩ := (hm.ex e1).m z1
  obtain ⟨k, rfl⟩ := chkK_ok z2
  obtain ⟨l, rfl⟩ := chkK_ok zz
  have fin : ∀ {v : V} {G : Hp}, Ex H G → Q v G := fun e => h0 z _ _ e
  rcases rv with rfl | ⟨sg, rfl⟩
  · exact q_when (b := true) (et_is (et_test (ev_op (ev_var rfl) ev_c fun H2 _ Q q => ⟨rfl, q H2 (Ex.refl H2)⟩)) (decide_eq_true rfl)) (fun _ H2 e2 => s_ret ev_c fun H3 e3 => fin (e1.trans (e2.trans e3))) (fun hb _ _ => nomatch hb)
  refine q_when (b := false) (et_is (et_test (ev_op (ev_var rfl) ev_c fun H2 _ Q q => ⟨rfl, q H2 (Ex.refl H2)⟩)) (decide_eq_false fun z => by cases sg <;> exact nomatch z)) (fun hb _ _ => nomatch hb) (fun _ H2 e2 => ?_)
  have hm2 := hm1.ex e2
  obtain ⟨n1, n2⟩ := m.near ho sg
  obtain ⟨c0, c1⟩ := ho.b (m.com k l)
  have p2' := p2 (m.b (m.com k l))
  have q2 : (2 : Int) ^ m.b (m.com k l) ≤ 2 ^ 128 := by
    have : (2 : Nat) ^ m.b (m.com k l) ≤ 2 ^ 128 := Nat.pow_le_pow_right (by decide) c1
    exact_mod_cast this
  refine q_asg (ev_un (ev_opU1 (eu_call (ea_cons (ev_var rfl) (ea_cons (ev_var rfl) ea_nil)) (spMU (k := sg) hm2 ho)) (fun G e => ev_c) fun p G h e => rv_ixT (st_of h) (atI_nat (j := 0) rfl)) ru_neg) fun H3 e3 => ?_
  have hm3 := hm2.ex e3
  refine q_asg (ev_op (shl1 c1 ev_c (ev_call (ea_cons (ev_var rfl) (ea_cons (ev_call (ea_cons (ev_var rfl) (ea_cons (ev_var rfl) (ea_cons (ev_var rfl) ea_nil))) (spMKK (k := k) (l := l) hm3 ho)) ea_nil)) (spMK hm3 ho))) ev_c rv_I0) fun H4 e4 => ?_
  generalize m.low sg = a at *
  generalize (2 : Int) ^ m.b (m.com k l) = b at *
  refine q_asg (ev_op (ev_op (ev_var rfl) (ev_op (ev_op (ev_op ev_c (ev_var rfl) (rv_I (.inl ⟨by decide, by decide⟩))) (ev_var rfl) rv_I0) ev_c rv_I0) (rv_I (wide_mul (a := 140) (b := 140) (by omega) (by omega) (by decide) (by decide) (by decide)))) ev_c (rv_I ⟨by decide, by decide⟩)) fun H5 e5 => ?_
  generalize -a * (2 * (b - 1) - -a + 1) / 2 = c
  have ev : Ev (tIf (tTest (tOp rEq (tVar 3) (tVar 1))) (tOp (rI0 fun i j => .int (i + j)) (tVar 6) (tVar 4)) (tVar 6)) [some (.ref p), some k.v, some l.v, some sg.v, some (.int (-a)), some (.int (b - 1)), some (.int c)] H5 (.int (if sg = k then c + -a else c)) :=
    ev_if (b := decide (sg = k)) (et_is (et_test (ev_op (ev_var rfl) (ev_var rfl) (rv_eq rfl))) (kd_eq2 sg k)) (fun hb => ev_is (ev_op (ev_var rfl) (ev_var rfl) rv_I0) (by rw [if_pos (of_decide_eq_true hb)])) (fun hb => ev_is (ev_var rfl) (by rw [if_neg (of_decide_eq_false hb)]))
  exact s_ret ev fun H6 e6 => fin (e1.trans ((e2.trans e3).trans ((e4.trans e5).trans e6)))

theorem sc_first_wrong : FnScope ["model", "first", "second", "signed", "least"] ["model", "first", "second"] (defScope s_first_wrong) := ⟨rfl, rfl, rfl, by decide +kernel, rfl, by decide +kernel, by decide +kernel⟩
theorem ok_first_wrong {CM CK : Addr} (D : Df K mg "first_wrong" s_first_wrong ["model", "first", "second"] f fd) (cs : ClX P w K mg base 5 "_checked_signed_one" ["model", "first", "second"] (PXr isSg (preMXX K CM CK))) (cl : Cl P w K mg base 2 "limits_of" ["model", "kind"] (PU (preMU K fun m k => [.int (m.low k), .int (m.high k)]))) :
    FnG P w K mg base (L2.CX P w) 6 f fd ["model", "first", "second"] (PX (preMXX K CM CK)) := by
  refine df_okX D sc_first_wrong (px_len fun vs H o h => by obtain ⟨p, ns, pl, x, y, rfl, _⟩ := h; rfl) (fun cdv A outer s H vs Q E hG hr tk h => ?_)
  obtain ⟨o, ⟨p, ns, pl, x, y, rfl, hm, rfl⟩, h0, h1⟩ := h
  have nd := sc_first_wrong.nd
  refine ⟨_, (pss_cons (ps_set (i := 3) nd rfl (.inl rfl) (pe_clX cs hG hr tk rfl (pa_cons (pv 0) (pa_cons (pv 1) (pa_cons (pv 2) pa_nil))))) (pss_cons (ps_if (pt_cmpR op_isN (pv 3) pe_non (nomark _)) (pss_one (ps_ret pe_non)) pss_nil) (pss_cons (ps_set (i := 4) nd rfl (.inl rfl) (pe_ix ix_tup (pe_cl cl hG hr rfl (pa_cons (pv 0) (pa_cons (pv 3) pa_nil))) pe_int (fun _ _ => rfl))) (pss_one (ps_ret (pe_ifExp (pt_cmpR op_eq (pv 3) (pv 1) (nomark _)) (pe_tup (pa_cons (pv 4) (pa_cons pe_int pa_nil))) (pe_tup (pa_cons pe_int (pa_cons (pv 4) pa_nil))))))))), ?_⟩
  refine q_asgXr (o := andThen (chkM CM ns pl) (andThen (chkK CK x) (chkK CK y))) (ea_cons (ev_var rfl) (ea_cons (ev_var rfl) (ea_cons (ev_var rfl) ea_nil))) (fun H1 e1 => ⟨p, ns, pl, x, y, rfl, hm.ex e1, rfl⟩) (fun z v H1 rv e1 => ?_) (fun C v z H1 e1 => (h1 C v z).ex e1)
  have zz := z
  unfold andThen at zz
  have z1 : chkM CM ns pl = none := by cases q : chkM CM ns pl with | none => rfl | some _ => rw [q] at zz; exact nomatch zz
  rw [z1] at zz
  have z2 : chkK CK x = none := by cases q : chkK CK x with | none => rfl | some _ => rw [q] at zz; exact nomatch zz
  rw [z2] at zz
  obtain ⟨m, ho, hm1⟩ := (hm.ex e1).m z1
  obtain ⟨k, rfl⟩ := chkK_ok z2
  obtain ⟨l, rfl⟩ := chkK_ok zz
  have fin : ∀ {v : V} {G : Hp}, Ex H G → Q v G := fun e => h0 z _ _ e
  rcases rv with rfl | ⟨sg, rfl⟩
  · exact q_when (b := true) (et_is (et_test (ev_op (ev_var rfl) ev_c fun H2 _ Q q => ⟨rfl, q H2 (Ex.refl H2)⟩)) (decide_eq_true rfl)) (fun _ H2 e2 => s_ret ev_c fun H3 e3 => fin (e1.trans (e2.trans e3))) (fun hb _ _ => nomatch hb)
  refine q_when (b := false) (et_is (et_test (ev_op (ev_var rfl) ev_c fun H2 _ Q q => ⟨rfl, q H2 (Ex.refl H2)⟩)) (decide_eq_false fun z => by cases sg <;> exact nomatch z)) (fun hb _ _ => nomatch hb) (fun _ H2 e2 => ?_)
  have hm2 := hm1.ex e2
  refine q_asg (v := .int (m.low sg)) (ev_opU1 (eu_call (ea_cons (ev_var rfl) (ea_cons (ev_var rfl) ea_nil)) (spMU (k := sg) hm2 ho)) (fun G e => ev_c) fun p G h e => rv_ixT (st_of h) (atI_nat (j := 0) rfl)) fun H3 e3 => ?_
  refine s_retD (K := K) (d := if sg = k then .tuple [.int (m.low sg), .int 0] else .tuple [.int 0, .int (m.low sg)]) (ed_if (b := decide (sg = k)) (et_is (et_test (ev_op (ev_var rfl) (ev_var rfl) (rv_eq rfl))) (kd_eq2 sg k)) (fun hb => ?_) (fun hb => ?_)) fun v H4 e4 hv => fin (e1.trans ((e2.trans e3).trans e4))
  · rw [if_pos (of_decide_eq_true hb)]
    exact ed_tup (ead_cons (ed_of (ev_var rfl) fun _ _ => .int _) (ead_cons (ed_of ev_c fun _ _ => .int _) ead_nil)) (by show 2 ≤ 100000; decide)
  · rw [if_neg (of_decide_eq_false hb)]
    exact ed_tup (ead_cons (ed_of ev_c fun _ _ => .int _) (ead_cons (ed_of (ev_var rfl) fun _ _ => .int _) ead_nil)) (by show 2 ≤ 100000; decide)

theorem sc_check_ranges : FnScope ["ranges", "at", "low", "high"] ["ranges"] (defScope s_check_ranges) := ⟨rfl, rfl, rfl, by decide +kernel, rfl, by decide +kernel, by decide +kernel⟩
theorem ok_check_ranges {CN : Addr} (D : Df K mg "check_ranges" s_check_ranges ["ranges"] f fd) (xN : Xi P w K mg base "InvalidNumber" CN) (cen : mg "enumerate" = none) : FnG P w K mg base (L2.CX P w) 3 f fd ["ranges"] (PX (preCR CN)) := by
  refine df_okX D sc_check_ranges (px_len fun vs H o h => by obtain ⟨l, r, rfl, _⟩ := h; rfl) (fun cdv A outer s H vs Q E hG hr tk h => ?_)
  obtain ⟨o, ⟨l, r, rfl, hP, hz, rfl⟩, h0, h1⟩ := h
  have nd := sc_check_ranges.nd
  refine ⟨_, (pss_one (ps_for PassesOwn.leaving rfl (pi_enum (by rfl) cen (pa_cons (pv 0) pa_nil)) (pg_tup rfl (pgs_cons (pg_name (i := 1) nd rfl (.inl rfl)) (pgs_cons (pg_tup rfl (pgs_cons (pg_name (i := 2) nd rfl (.inl rfl)) (pgs_cons (pg_name (i := 3) nd rfl (.inl rfl)) pgs_nil))) pgs_nil)))
     (pss_one (ps_if (pt_cmpR op_gt (pv 2) (pv 3) (nomark _)) (pss_one (ps_raiseZ rfl xN hr tk (pa_cons (pv 1) pa_nil) rfl)) pss_nil)))), ?_⟩
  obtain ⟨L, hl, hin, hLr⟩ := hP
  have hVl : (prV L).length = r.length := by unfold prV; rw [List.length_map, ← hLr, List.length_map]
  refine (ev_var (v := .ref l) rfl) H (Ex.refl H) _ fun H2 e2 => ⟨l, prV L, rfl, sq_of (e2 _ _ hl), ?_⟩
  refine for_it (n := (prV L).length) walk_enum (fun i σ G => Ex H G ∧ chkR CN i (r.drop i) = chkR CN 0 r ∧ ∃ y1 y2 y3, σ = [some (.ref l), y1, y2, y3]) ⟨e2, rfl, none, none, none, rfl⟩ (fun i σ G _ h => sq_of (h.1 _ _ hl)) ?_ ?_
  · intro i x σ G G' hi hp hy
    obtain ⟨eG, hck, y1, y2, y3, rfl⟩ := hp
    obtain ⟨T, x5, x6, rfl, hTn, rfl, h5, h6⟩ := hy
    cases h5
    have h6 : (prV L)[i]? = some x6 := h6
    unfold prV at h6
    rw [List.getElem?_map] at h6
    obtain ⟨x, hx, rfl⟩ := Option.map_eq_some_iff.mp h6
    have q2 := eG _ _ (hin x (List.mem_of_getElem? hx))
    have hrx : r[i]? = some x.2 := by rw [← hLr, List.getElem?_map, hx]; rfl
    have eT : Ex G (upd G T (.tup [.int (i : Nat), .ref x.1])) := Ex.new hTn
    have hT2 : (upd G T (.tup [.int (i : Nat), .ref x.1])) T = some (.tup [.int (i : Nat), .ref x.1]) := upd_same
    generalize upd G T (.tup [.int (i : Nat), .ref x.1]) = G5 at eT hT2 ⊢
    refine ⟨T, _, rfl, st_of hT2, rfl, _, _, rfl, _, _, rfl, x.1, _, rfl, st_of (eT _ _ q2), rfl, _, _, rfl, _, _, rfl, rfl, rfl, ?_⟩
    dsimp only [List.set]
    rw [chkR_drop hrx] at hck
    refine s_when (b := decide (x.2.1 > x.2.2)) (et_test (ev_op (ev_var rfl) (ev_var rfl) rv_I0)) (fun c G6 e6 => ?_) (fun c G6 e6 => ?_)
    · have c : x.2.1 > x.2.2 := of_decide_eq_true c
      rw [if_pos (by omega)] at hck
      exact s_rz (ev_var rfl) fun G7 e7 => (h1 CN (.int (i : Nat)) hck.symm).ex (eG.trans (eT.trans (e6.trans e7)))
    · have c : ¬ x.2.1 > x.2.2 := of_decide_eq_false c
      rw [if_neg (by omega)] at hck
      exact ⟨eG.trans (eT.trans e6), hck, _, _, _, rfl⟩
  · intro σ G hp
    obtain ⟨eG, hck, y1, y2, y3, rfl⟩ := hp
    refine h0 ?_ _ G eG
    rw [← hck, hVl, List.drop_eq_nil_of_le (Nat.le_refl _)]
    rfl

theorem sc__ways_up_to : FnScope ["most", "ranges", "room", "rooms", "low", "high", "size", "many", "_", "left", "sign"] ["most", "ranges"] (defScope s__ways_up_to) := ⟨rfl, rfl, rfl, by decide +kernel, rfl, by decide +kernel, by decide +kernel⟩
theorem ok__ways_up_to (D : Df K mg "_ways_up_to" s__ways_up_to ["most", "ranges"] f fd) (csu : mg "sum" = none) (cle : mg "len" = none) (ccb : mg "comb" = some (.builtin "math.comb")) : FnG P w K mg base CX0 1 f fd ["most", "ranges"] (PV preWU) := by
  refine df_ok D sc__ways_up_to (pre_len1 fun vs H v h => by obtain ⟨i, l, r, rfl, _⟩ := h; rfl) (fun cdv A outer s H vs Q E hG hr h => ?_)
  obtain ⟨v, ⟨i0, l, r, rfl, hP, h8, hle, hnr, hi0, rfl⟩, hQ⟩ := h
  have nd := sc__ways_up_to.nd
  refine ⟨_, (pss_cons (ps_set (i := 2) nd rfl (.inl rfl) (pe_op op_sub (pv 0) (pe_callB (cr_sum rfl) (by rfl) csu (by decide +kernel) (pa_cons (pe_lc (own := [("low", 4), ("_", 8)]) (g := gTup K 2 (gCons (gName 4) (gCons (gName 8) gNil))) (tt := tYes) rfl nd (pi_list (pv 1)) (blkOk_by (N := ["most", "ranges", "room", "rooms", "low", "high", "size", "many", "_", "left", "sign"]) (sc := defScope s__ways_up_to) (by decide +kernel)) (fun _ _ _ _ _ => pg_tup rfl (pgs_cons (pg_name (i := 4) nd rfl (Or.inl rfl)) (pgs_cons (pg_name (i := 8) nd rfl (Or.inl rfl)) pgs_nil))) (fun _ _ _ _ _ => pts_nil) (fun _ _ _ _ _ => pv 4)) pa_nil)))) (pss_cons (ps_set (i := 3) nd rfl (.inl rfl) (pe_lst (pa_cons (pe_tup (pa_cons (pv 2) (pa_cons pe_int pa_nil))) pa_nil))) (pss_cons (ps_for PassesOwn.never rfl (pi_list (pv 1)) (pg_tup rfl (pgs_cons (pg_name (i := 4) nd rfl (.inl rfl)) (pgs_cons (pg_name (i := 5) nd rfl (.inl rfl)) pgs_nil))) (pss_cons (ps_set (i := 6) nd rfl (.inr rfl) (pe_op op_add (pe_op op_sub (pv 5) (pv 4)) pe_int)) (pss_one (ps_set (i := 3) nd rfl (.inl rfl) (pe_op op_cat (pv 3) (pe_lc (own := [("left", 9), ("sign", 10)]) (g := gTup K 2 (gCons (gName 9) (gCons (gName 10) gNil))) (tt := tYes) rfl nd (pi_list (pv 3)) (blkOk_by (N := ["most", "ranges", "room", "rooms", "low", "high", "size", "many", "_", "left", "sign"]) (sc := defScope s__ways_up_to) (by decide +kernel)) (fun _ _ _ _ _ => pg_tup rfl (pgs_cons (pg_name (i := 9) nd rfl (Or.inl rfl)) (pgs_cons (pg_name (i := 10) nd rfl (Or.inl rfl)) pgs_nil))) (fun _ _ _ _ _ => pts_nil) (fun _ _ _ _ _ => pe_tup (pa_cons (pe_op op_sub (pv 9) (pv 6)) (pa_cons (pe_un un_neg (pv 10)) pa_nil))))))))) (pss_cons (ps_set (i := 7) nd rfl (.inr rfl) (pe_callB call_len_seq (by rfl) cle PySem.boot_len (pa_cons (pv 1) pa_nil))) (pss_one (ps_ret (pe_callB (cr_sum rfl) (by rfl) csu (by decide +kernel) (pa_cons (pe_lc (own := [("left", 9), ("sign", 10)]) (g := gTup K 2 (gCons (gName 9) (gCons (gName 10) gNil))) rfl nd (pi_list (pv 3)) (blkOk_by (N := ["most", "ranges", "room", "rooms", "low", "high", "size", "many", "_", "left", "sign"]) (sc := defScope s__ways_up_to) (by decide +kernel)) (fun _ _ _ _ _ => pg_tup rfl (pgs_cons (pg_name (i := 9) nd rfl (Or.inl rfl)) (pgs_cons (pg_name (i := 10) nd rfl (Or.inl rfl)) pgs_nil))) (fun _ _ _ _ _ => pts_one (pt_cmpR op_ge (pv 9) pe_int (nomark _))) (fun _ _ _ _ _ => pe_op op_mulW (pv 10) (pe_callBfun cr_comb rfl ccb (pa_cons (pe_op op_add (pv 9) (pv 7)) (pa_cons (pv 7) pa_nil))))) pa_nil)))))))), ?_⟩
  obtain ⟨L, hl, hin, hLr⟩ := id hP
  have hLl : L.length = r.length := by rw [← hLr, List.length_map]
  have hrok := room_ok hnr h8 hi0
  have hget : ∀ {i : Nat} {y : PrA}, L[i]? = some y → r[i]? = some y.2 := fun hy => by rw [← hLr, List.getElem?_map, hy]; rfl
  have hVl : (prV L).length = r.length := by unfold prV; rw [List.length_map, hLl]
  -- room
  refine q_raw (op_raw (var_raw rfl (cb_raw (cons_raw (lcL_go (a := l) (xs := prV L) (ev_var rfl) (sq_of hl) (fun D i G => Ex H G ∧ H D = none ∧ G D = some (.lst (((r.take i).map (·.1)).map V.int))) (fun D G1 e nD => ⟨e.trans (Ex.new nD), fresh_back e nD, upd_same⟩) (fun D i G _ hp => sq_of (hp.1 _ _ hl)) (fun D i x G hx hp => ?_) (fun D G hp => nil_raw ?_))))))
  · obtain ⟨eG, nD, hD⟩ := hp
    unfold prV at hx
    rw [List.getElem?_map] at hx
    obtain ⟨y, hy, rfl⟩ := Option.map_eq_some_iff.mp hx
    have hrow := eG _ _ (hin y (List.mem_of_getElem? hy))
    have hi : i < L.length := (List.getElem?_eq_some_iff.mp hy).1
    refine ⟨y.1, _, rfl, st_of hrow, rfl, _, _, rfl, _, _, rfl, rfl, rfl, yes_raw (iteT (var_raw rfl ⟨_, hD, by rw [List.length_map, List.length_map, List.length_take]; exact sz_lt (by omega), fun c o hc => ?_, nD, ?_⟩))⟩
    · rw [upd_ne (fun z => by rw [z, nD] at hc; exact nomatch hc)]
      exact eG _ _ hc
    · rw [take_snoc (hget hy), upd_same, List.map_append, List.map_append]
      rfl
  obtain ⟨eG, nD, hD⟩ := hp
  rw [hVl, List.take_length] at hD
  refine ⟨D, r.map (·.1), rfl, sq_of hD, ?_⟩
  refine ⟨_, _, rfl, rfl, ?_⟩
  have hroom : i0 - (r.map (·.1)).sum = i0 - lowS r := rfl
  clear hD nD
  dsimp only [List.set]
  rw [hroom]
  -- rooms
  refine q_raw (lst_raw (cons_raw (tup_raw (cons_raw (var_raw rfl (cons_raw (c_raw (nil_raw ⟨by show 2 ≤ sizeLine; decide, fun p np => nil_raw ⟨by show 1 ≤ sizeLine; decide, fun rl nrl => ?_⟩⟩))))))))
  have e1 : Ex G (upd G p (.tup [.int (i0 - lowS r), .int 1])) := Ex.new np
  have hp1 : (upd G p (.tup [.int (i0 - lowS r), .int 1])) p = some (.tup [.int (i0 - lowS r), .int 1]) := upd_same
  generalize upd G p (.tup [.int (i0 - lowS r), .int 1]) = G1 at e1 hp1 nrl ⊢
  have e2 : Ex G1 (upd G1 rl (.lst [.ref p])) := Ex.new nrl
  have hR : PrsAt (upd G1 rl (.lst [.ref p])) rl (rooms [(i0 - lowS r, 1)] (r.take 0)) := ⟨[(p, (i0 - lowS r, 1))], upd_same, fun x hx => by rw [List.mem_singleton.mp hx]; exact e2 _ _ hp1, rfl⟩
  have e3 := eG.trans (e1.trans e2)
  generalize upd G1 rl (.lst [.ref p]) = G2 at e3 hR ⊢
  clear e2 e1 hp1 np nrl
  refine q_forLx (a := l) (xs := prV L) (ev_var rfl) (sq_of (e3 _ _ hl)) (fun i σ G => Ex H G ∧ ∃ rl y4 y5 y6, σ = [some (.int i0), some (.ref l), some (.int (i0 - lowS r)), some (.ref rl), y4, y5, y6, none, none, none, none] ∧ PrsAt G rl (rooms [(i0 - lowS r, 1)] (r.take i))) (fun G e => ⟨e3.trans e, rl, none, none, none, rfl, hR.ex e⟩) (fun i σ G _ h => sq_of (h.1 _ _ hl)) ?_ ?_
  · intro i x σ G hx hp
    obtain ⟨eG, rl, y4, y5, y6, rfl, hR⟩ := hp
    unfold prV at hx
    rw [List.getElem?_map] at hx
    obtain ⟨y, hy, rfl⟩ := Option.map_eq_some_iff.mp hx
    have hi : i < L.length := (List.getElem?_eq_some_iff.mp hy).1
    refine ⟨y.1, _, rfl, st_of (eG _ _ (hin y (List.mem_of_getElem? hy))), rfl, _, _, rfl, _, _, rfl, rfl, ?_⟩
    dsimp only [List.set]
    refine q_asg (ev_op (ev_op (ev_var rfl) (ev_var rfl) rv_I0) ev_c rv_I0) fun G4 e4 => ?_
    dsimp only [List.set]
    have hR4 := hR.ex e4
    have eG4 := eG.trans e4
    have htk : rooms [(i0 - lowS r, 1)] (r.take (i + 1)) = rooms [(i0 - lowS r, 1)] (r.take i) ++ (rooms [(i0 - lowS r, 1)] (r.take i)).map fun x => (x.1 - (y.2.2 - y.2.1 + 1), -x.2) := by
      rw [take_snoc (hget hy), rooms_snoc]
    have hrl : (rooms [(i0 - lowS r, 1)] (r.take i)).length ≤ 256 := by
      rw [rooms_len, List.length_take]
      have : (2 : Nat) ^ (min i r.length) ≤ 2 ^ 8 := Nat.pow_le_pow_right (by decide) (by omega)
      show 1 * _ ≤ 256
      omega
    rw [htk]
    generalize rooms [(i0 - lowS r, 1)] (r.take i) = acc at hR4 hrl ⊢
    clear hR
    obtain ⟨LR, hl4, hin4, hLR⟩ := hR4
    have hLRl : LR.length = acc.length := by rw [← hLR, List.length_map]
    refine s_raw (op_raw (var_raw rfl (lcL_go (a := rl) (xs := prV LR) (ev_var rfl) (sq_of hl4) (fun D j G => Ex G4 G ∧ G4 D = none ∧ ∃ M : List PrA, G D = some (.lst (prV M)) ∧ PrsIn G M ∧ M.map (·.2) = (acc.take j).map fun x => (x.1 - (y.2.2 - y.2.1 + 1), -x.2)) (fun D G1 e nD => ⟨e.trans (Ex.new nD), fresh_back e nD, [], upd_same, (fun x hx => nomatch hx), rfl⟩) (fun D j G _ hp => sq_of (hp.1 _ _ hl4)) (fun D j x G hx hp => ?_) (fun D G hp => ?_))))
    · obtain ⟨e5, nD, M, hD, hM, hMm⟩ := hp
      unfold prV at hx
      rw [List.getElem?_map] at hx
      obtain ⟨z, hz, rfl⟩ := Option.map_eq_some_iff.mp hx
      have hj : j < LR.length := (List.getElem?_eq_some_iff.mp hz).1
      have hza : acc[j]? = some z.2 := by rw [← hLR, List.getElem?_map, hz]; rfl
      have hMl : M.length = j := by
        have := congrArg List.length hMm
        rw [List.length_map, List.length_map, List.length_take] at this
        omega
      refine ⟨z.1, _, rfl, st_of (e5 _ _ (hin4 z (List.mem_of_getElem? hz))), rfl, _, _, rfl, _, _, rfl, rfl, rfl, yes_raw (iteT ?_)⟩
      refine (eu_tup (ea_cons (ev_op (ev_var rfl) (ev_var rfl) rv_I0) (ea_cons (ev_un (ev_var rfl) ru_neg) ea_nil)) (by show 2 ≤ 100000; decide)) G (Ex.refl G) _ fun t G6 nt e6 ht => ?_
      have hD6 := e6 _ _ hD
      have bb : ∀ c o, c ≠ D → G6 c = some o → (upd G6 D (.lst (prV M ++ [.ref t]))) c = some o := fun c o nc hc => by rw [upd_ne nc]; exact hc
      have ntD : ∀ {c xs}, G6 c = some (.tup xs) → c ≠ D := fun hc z => by rw [z, hD6] at hc; exact nomatch hc
      refine ⟨prV M, hD6, by unfold prV; rw [List.length_map, hMl]; exact sz_lt (by omega), fun c o hc => bb c o (fun z => by rw [z, nD] at hc; exact nomatch hc) (e6 _ _ (e5 _ _ hc)), nD, M ++ [(t, (z.2.1 - (y.2.2 - y.2.1 + 1), -z.2.2))], ?_, ?_, ?_⟩
      · unfold prV
        rw [List.map_append]
        exact upd_same
      · intro x hx
        rcases List.mem_append.mp hx with q | q
        · exact bb _ _ (ntD (e6 _ _ (hM x q))) (e6 _ _ (hM x q))
        · rw [List.mem_singleton.mp q]
          exact bb _ _ (ntD ht) ht
      · rw [take_snoc hza, List.map_append, List.map_append, hMm]
        rfl
    · obtain ⟨e5, nD, M, hD, hM, hMm⟩ := hp
      have hPl : (prV LR).length = acc.length := by unfold prV; rw [List.length_map, hLRl]
      have hMl : M.length = acc.length := by
        have := congrArg List.length hMm
        rw [List.length_map, List.length_map, List.length_take] at this
        omega
      rw [hPl, List.take_length] at hMm
      refine ⟨rl, D, prV LR, prV M, rfl, rfl, e5 _ _ hl4, hD, by rw [hPl]; unfold prV; rw [List.length_map, hMl]; exact sz_of (by omega), fun t nt => ?_⟩
      have e6 : Ex G (upd G t (.lst (prV LR ++ prV M))) := Ex.new nt
      refine ⟨(eG4.trans e5).trans e6, t, _, _, _, rfl, LR ++ M, ?_, ?_, ?_⟩
      · unfold prV
        rw [List.map_append]
        exact upd_same
      · intro x hx
        rcases List.mem_append.mp hx with q | q
        · exact e6 _ _ (e5 _ _ (hin4 x q))
        · exact e6 _ _ (hM x q)
      · rw [List.map_append, hLR, hMm]
  · intro σ G hp
    obtain ⟨eG, rl, y4, y5, y6, rfl, hR⟩ := hp
    rw [hVl, List.take_length] at hR
    have hsum := term_sum r.length (rooms [(i0 - lowS r, 1)] r)
    rw [sumR_rooms] at hsum
    have hfin : (termL r.length (rooms [(i0 - lowS r, 1)] r)).sum = Gs r (Fk r.length) (i0 - lowS r) := by
      rw [hsum]
      show 1 * Gs r (Fk r.length) (i0 - lowS r) + 0 = _
      omega
    have hrl : (rooms [(i0 - lowS r, 1)] r).length ≤ 256 := by
      rw [rooms_len]
      have : (2 : Nat) ^ r.length ≤ 2 ^ 8 := Nat.pow_le_pow_right (by decide) h8
      show 1 * _ ≤ 256
      omega
    generalize rooms [(i0 - lowS r, 1)] r = acc at hR hrok hfin hrl
    obtain ⟨LR, hl4, hin4, hLR⟩ := hR
    have hLRl : LR.length = acc.length := by rw [← hLR, List.length_map]
    have hPl : (prV LR).length = acc.length := by unfold prV; rw [List.length_map, hLRl]
    refine q_asg (v := .int (r.length : Nat)) (ev_cb (ea_cons (ev_var rfl) ea_nil) fun H2 e2 Q1 q1 => ⟨l, prV L, rfl, .inl (ex_l e2 (sq_of (eG _ _ hl))), by rw [hVl]; exact q1 H2 (Ex.refl H2)⟩) fun G4 e4 => ?_
    dsimp only [List.set]
    have eG4 := eG.trans e4
    refine retx (cb_raw (cons_raw (lcL_go (a := rl) (xs := prV LR) (ev_var rfl) (sq_of (e4 _ _ hl4)) (fun D j G => Ex G4 G ∧ G4 D = none ∧ G D = some (.lst ((termL r.length (acc.take j)).map V.int))) (fun D G1 e nD => ⟨e.trans (Ex.new nD), fresh_back e nD, upd_same⟩) (fun D j G _ hp => sq_of (hp.1 _ _ (e4 _ _ hl4))) (fun D j x G hx hp => ?_) (fun D G hp => nil_raw ?_))))
    · obtain ⟨e5, nD, hD⟩ := hp
      unfold prV at hx
      rw [List.getElem?_map] at hx
      obtain ⟨z, hz, rfl⟩ := Option.map_eq_some_iff.mp hx
      have hj : j < LR.length := (List.getElem?_eq_some_iff.mp hz).1
      have hza : acc[j]? = some z.2 := by rw [← hLR, List.getElem?_map, hz]; rfl
      obtain ⟨zb, zs⟩ := hrok z.2 (List.mem_of_getElem? hza)
      have htl : (termL r.length (acc.take j)).length ≤ 256 := by
        unfold termL
        rw [List.length_map]
        refine Nat.le_trans (List.length_filter_le _ _) ?_
        rw [List.length_take]
        omega
      refine ⟨z.1, _, rfl, st_of (e5 _ _ (e4 _ _ (hin4 z (List.mem_of_getElem? hz)))), rfl, _, _, rfl, _, _, rfl, rfl, rfl, ?_⟩
      refine test_raw (op_raw (var_raw rfl (c_raw ⟨_, _, rfl, rfl, _, rfl, ?_⟩)))
      rw [take_snoc hza, term_snoc]
      refine ite2 (fun hc => ?_) (fun hc => ?_)
      · have h0 : 0 ≤ z.2.1 := of_decide_eq_true hc
        rw [if_pos h0]
        obtain ⟨a, ha⟩ : ∃ a : Nat, z.2.1 = (a : Int) := ⟨z.2.1.toNat, by omega⟩
        have hcc : Fk r.length z.2.1 = (ch (a + r.length) r.length : Int) := by
          unfold Fk
          rw [if_pos h0, ha]
          rfl
        have hcs := comb_abs (n := a + r.length) (k := r.length) (by omega) (by omega) (by omega)
        rw [comb_ch (by omega)] at hcs
        refine op_raw (var_raw rfl (cb_raw (cons_raw (op_raw (var_raw rfl (var_raw rfl ⟨_, _, rfl, rfl, cons_raw (var_raw rfl (nil_raw ⟨a + r.length, r.length, by rw [ha]; rfl, by omega, by omega, by omega, ⟨_, _, rfl, rfl, ?_, ?_⟩⟩))⟩))))))
        · show _ + _ < 1000000
          have l1 : ((ch (a + r.length) r.length : Nat) : Int).natAbs.log2 < 1261 := PySem.Flt.log2_lt_of (by decide) (by
            have : (2 : Nat) ^ 1261 = 2 ^ 1260 * 2 := by rw [← Nat.pow_succ]
            have h2 : 0 < (2 : Nat) ^ 1260 := Nat.pow_pos (by decide)
            omega)
          have l2 : z.2.2.natAbs.log2 < 2 := PySem.Flt.log2_lt_of (by decide) (by omega)
          omega
        · refine ⟨_, hD, by rw [List.length_map]; exact sz_lt (by omega), fun c o hc => ?_, nD, ?_⟩
          · rw [upd_ne (fun z => by rw [z, nD] at hc; exact nomatch hc)]
            exact e5 _ _ hc
          · rw [upd_same, List.map_append, hcc]
            rfl
      · have h0 : ¬ 0 ≤ z.2.1 := fun y => hc (decide_eq_true y)
        rw [if_neg h0, List.append_nil]
        exact ⟨e5, nD, hD⟩
    · obtain ⟨e5, nD, hD⟩ := hp
      rw [hPl, List.take_length] at hD
      refine ⟨D, _, rfl, sq_of hD, ?_⟩
      rw [hfin]
      exact hQ G (eG4.trans e5)

theorem sc_count_beyond : FnScope ["model", "kind", "ranges", "least", "greatest", "whole", "low", "high"] ["model", "kind", "ranges"] (defScope s_count_beyond) := ⟨rfl, rfl, rfl, by decide +kernel, rfl, by decide +kernel, by decide +kernel⟩
theorem ok_count_beyond {CM CK CN : Addr} (D : Df K mg "count_beyond" s_count_beyond ["model", "kind", "ranges"] f fd) (cm : ClX P w K mg base 4 "check_model" ["model"] (PX (preCM K CM))) (ck : ClX P w K mg base 3 "check_kind" ["kind"] (PX (preCK CK))) (cr : ClX P w K mg base 3 "check_ranges" ["ranges"] (PX (preCR CN)))
    (cl : Cl P w K mg base 2 "limits_of" ["model", "kind"] (PU (preMU K fun m k => [.int (m.low k), .int (m.high k)]))) (cw : Cl P w K mg base 1 "_ways_up_to" ["most", "ranges"] (PV preWU)) : FnG P w K mg base (L2.CX P w) 5 f fd ["model", "kind", "ranges"] (PX (preCBX K CM CK CN)) := by
  refine df_okX D sc_count_beyond (px_len fun vs H o h => by obtain ⟨p, ns, pl, x, l, r, rfl, _⟩ := h; rfl) (fun cdv A outer s H vs Q E hG hr tk h => ?_)
  obtain ⟨o, ⟨p, ns, pl, x, l, r, rfl, hm, hP, h8, hnr, hsz, rfl⟩, h0, h1⟩ := h
  have nd := sc_count_beyond.nd
  refine ⟨_, (pss_cons (ps_expr (pe_clX cm hG hr tk rfl (pa_cons (pv 0) pa_nil))) (pss_cons (ps_expr (pe_clX ck hG hr tk rfl (pa_cons (pv 1) pa_nil))) (pss_cons (ps_expr (pe_clX cr hG hr tk rfl (pa_cons (pv 2) pa_nil))) (pss_cons (ps_asg (pe_cl cl hG hr rfl (pa_cons (pv 0) (pa_cons (pv 1) pa_nil))) (pg_tup rfl (pgs_cons (pg_name (i := 3) nd rfl (.inl rfl)) (pgs_cons (pg_name (i := 4) nd rfl (.inl rfl)) pgs_nil)))) (pss_cons (ps_set (i := 5) nd rfl (.inl rfl) pe_int) (pss_cons (ps_for PassesOwn.leaving rfl (pi_list (pv 2)) (pg_tup rfl (pgs_cons (pg_name (i := 6) nd rfl (.inl rfl)) (pgs_cons (pg_name (i := 7) nd rfl (.inl rfl)) pgs_nil))) (pss_one (ps_aug (i := 5) nd rfl (.inl rfl) (pe_op op_add (pe_op op_sub (pv 7) (pv 6)) pe_int) iop_mul))) (pss_one (ps_ret (pe_op op_add (pe_op op_sub (pv 5) (pe_cl cw hG hr rfl (pa_cons (pv 4) (pa_cons (pv 2) pa_nil)))) (pe_cl cw hG hr rfl (pa_cons (pe_op op_sub (pv 3) pe_int) (pa_cons (pv 2) pa_nil)))))))))))), ?_⟩
  refine q_dropX (o := chkM CM ns pl) (ea_cons (ev_var rfl) ea_nil) (fun H1 e1 => ⟨p, ns, pl, rfl, hm.ex e1, rfl⟩) (fun z H1 e1 => ?_) (fun C v z H1 e1 => (h1 C v (by rw [z]; rfl)).ex e1)
  refine q_dropX (o := chkK CK x) (ea_cons (ev_var rfl) ea_nil) (fun H2 e2 => ⟨x, rfl, rfl⟩) (fun z2 H2 e2 => ?_) (fun C v z2 H2 e2 => (h1 C v (by rw [z, z2]; rfl)).ex (e1.trans e2))
  refine q_dropX (o := chkR CN 0 r) (ea_cons (ev_var rfl) ea_nil) (fun H3 e3 => ⟨l, r, rfl, hP.ex ((e1.trans e2).trans e3), by omega, rfl⟩) (fun z3 H3 e3 => ?_) (fun C v z3 H3 e3 => (h1 C v (by rw [z, z2]; exact z3)).ex ((e1.trans e2).trans e3))
  obtain ⟨m, ho, hm⟩ := hm.m z
  obtain ⟨k, rfl⟩ := chkK_ok z2
  have hle := chkR_ok z3
  have hz : andThen (chkM CM ns pl) (andThen (chkK CK k.s) (chkR CN 0 r)) = none := by rw [z, z2]; exact z3
  have fin : ∀ {v : V} {G : Hp}, Ex H G → Q v G := fun e => h0 hz _ _ e
  have e03 := (e1.trans e2).trans e3
  refine q_asgT2 (eu_call (ea_cons (ev_var rfl) (ea_cons (ev_var rfl) ea_nil)) (spMU (k := k) (hm.ex e03) ho)) fun H4 e4 => ?_
  refine q_asg (v := .int 1) ev_c fun H5 e5 => ?_
  have e05 := e03.trans (e4.trans e5)
  obtain ⟨L, hl, hin, hLr⟩ := id hP
  have hVl : (prV L).length = r.length := by unfold prV; rw [List.length_map, ← hLr, List.length_map]
  have hspan := m.span ho k
  have hlow := m.low_le k
  obtain ⟨b0, b1⟩ := ho.b k
  have q2 : (2 : Int) ^ m.b k ≤ 2 ^ 128 := by
    have : (2 : Nat) ^ m.b k ≤ 2 ^ 128 := Nat.pow_le_pow_right (by decide) b1
    exact_mod_cast this
  refine q_forLx (a := l) (xs := prV L) (ev_var rfl) (sq_of (e05 _ _ hl)) (fun i σ G => Ex H G ∧ ∃ y6 y7, σ = [some (.ref p), some k.v, some (.ref l), some (.int (m.low k)), some (.int (m.high k)), some (.int (whP (r.take i) : Nat)), y6, y7]) (fun G e => ⟨e05.trans e, none, none, rfl⟩) (fun i σ G _ h => sq_of (h.1 _ _ hl)) ?_ ?_
  · intro i x σ G hx hp
    obtain ⟨eG, y6, y7, rfl⟩ := hp
    unfold prV at hx
    rw [List.getElem?_map] at hx
    obtain ⟨y, hy, rfl⟩ := Option.map_eq_some_iff.mp hx
    have hry : r[i]? = some y.2 := by rw [← hLr, List.getElem?_map, hy]; rfl
    have hy2 := hle y.2 (List.mem_of_getElem? hry)
    refine ⟨y.1, _, rfl, st_of (eG _ _ (hin y (List.mem_of_getElem? hy))), rfl, _, _, rfl, _, _, rfl, rfl, ?_⟩
    dsimp only [List.set]
    have hs2 := hsz y.2 (List.mem_of_getElem? hry)
    have hz : y.2.2 - y.2.1 + 1 = (szP y.2 : Int) := by unfold szP; omega
    refine saug_raw (v := .int (whP (r.take i) : Nat)) rfl (op_raw (op_raw (var_raw rfl (var_raw rfl ⟨_, _, rfl, rfl, c_raw ⟨_, _, rfl, rfl, ⟨_, _, rfl, rfl, .inr ⟨by omega, by omega⟩, eG, some (.int y.2.1), some (.int y.2.2), ?_⟩⟩⟩))))
    rw [hz, take_snoc hry, whP_snoc]
    rfl
  · intro σ G hp
    obtain ⟨eG, y6, y7, rfl⟩ := hp
    rw [hVl, List.take_length]
    refine s_ret (ev_op (ev_op (ev_var rfl) (ev_call (ea_cons (ev_var rfl) (ea_cons (ev_var rfl) ea_nil)) (PV.sp fun G1 e => ⟨m.high k, l, r, rfl, hP.ex (eG.trans e), h8, hle, hnr, by omega, rfl⟩)) rv_I0) (ev_call (ea_cons (ev_op (ev_var rfl) ev_c rv_I0) (ea_cons (ev_var rfl) ea_nil)) (PV.sp fun G1 e => ⟨m.low k - 1, l, r, rfl, hP.ex (eG.trans e), h8, hle, hnr, by omega, rfl⟩)) rv_I0) fun G2 e2 => fin (eG.trans e2)

theorem sc__law_pool : FnScope ["script", "at", "cell"] ["script", "at"] (defScope s__law_pool) := ⟨rfl, rfl, rfl, by decide +kernel, rfl, by decide +kernel, by decide +kernel⟩
theorem ok__law_pool (D : Df K mg "_law_pool" s__law_pool ["script", "at"] f fd) (cle : mg "len" = none) (cma : mg "max" = none) (cab : mg "abs" = none) : FnG P w K mg base CX0 1 f fd ["script", "at"] (spPool K) := by
  refine df_ok D sc__law_pool (fun vs H Q E h => by obtain ⟨a, ns, at_, rfl, _⟩ := h; rfl) (fun cdv A outer s H vs Q E hG hr h => ?_)
  obtain ⟨a, ns, at_, rfl, hS, hz, h63, hQ⟩ := h
  have nd := sc__law_pool.nd
  refine ⟨_, (pss_cons (ps_set (i := 2) nd rfl (.inl rfl) pe_int) (pss_cut (ps_if (pt_cmpR op_lt (pv 1) (pe_callB call_len_seq (by rfl) cle PySem.boot_len (pa_cons (pv 0) pa_nil)) (nomark _)) (pss_one (ps_set (i := 2) nd rfl (.inl rfl) (pe_ix ix_list (pv 0) (pv 1) (fun _ _ => rfl)))) pss_nil) (pss_one (ps_ret (pe_lst (pa_cons (pe_callB (call_max2 rfl) (by rfl) cma (by decide +kernel) (pa_cons pe_int (pa_cons (pe_op op_sub (pe_callB call_abs (by rfl) cab (by decide +kernel) (pa_cons (pv 2) pa_nil)) (pe_op op_powW pe_int pe_int)) pa_nil))) (pa_cons (pe_op op_add (pe_op op_mod (pv 2) pe_int) (pe_op op_mul pe_int (pe_op op_add (pv 1) pe_int))) (pa_cons pe_int pa_nil)))))))), ?_⟩
  refine q_asg (v := .int 0) ev_c fun H1 e1 => ?_
  dsimp only [List.set]
  have sL : ∀ {G : Hp}, Ex H G → SqL K G a (ns.map V.int) := fun e => ex_l e hS
  refine q_cut (M := fun σ' G => ∃ c : Int, Ex H G ∧ σ' = [some (.ref a), some (.int (at_ : Nat)), some (.int c)]) ?_ (fun σ' G hp => ?_)
  · refine s_if (b := decide ((at_ : Int) < (ns.length : Nat))) (et_is (et_test (ev_op (ev_var rfl) (ev_cb (z := .int ((ns.map V.int).length : Nat)) (ea_cons (ev_var rfl) ea_nil) fun H2 e2 Q1 q1 => ⟨a, _, rfl, .inl (sL (e1.trans e2)), q1 H2 (Ex.refl H2)⟩) rv_I0)) (by rw [List.length_map])) (fun hb H2 e2 => ?_) (fun hb H2 e2 => ⟨0, e1.trans e2, rfl⟩)
    have hlt : at_ < ns.length := by have := of_decide_eq_true hb; omega
    refine s_asg (ev_op (ev_var rfl) (ev_var rfl) (rv_ixL (sL (e1.trans e2)) (atI_nat (v := .int ns[at_]) (by rw [List.getElem?_map, List.getElem?_eq_getElem hlt]; rfl)))) fun H3 e3 => ⟨ns[at_], (e1.trans e2).trans e3, rfl⟩
  obtain ⟨c, e2, rfl⟩ := hp
  have cm : CMul 2976221207 ((at_ : Int) + 1) := .inl ⟨by decide, by decide⟩
  have m0 := Int.emod_nonneg c (show (2305843009213693951 : Int) ≠ 0 by decide)
  have m1 := Int.emod_lt_of_pos c (show (0 : Int) < 2305843009213693951 by decide)
  refine s_retL (el_lst (ea_cons (ev_cb (ea_cons ev_c (ea_cons (ev_op (ev_cb (z := .int (if c < 0 then -c else c)) (ea_cons (ev_var rfl) ea_nil) fun H2 e2 Q1 q1 => ⟨c, rfl, q1 H2 (Ex.refl H2)⟩) (ev_op ev_c ev_c (rv_I ⟨by decide, by decide, by decide⟩)) rv_I0) ea_nil)) fun H2 e2 Q1 q1 => ⟨_, _, rfl, q1 H2 (Ex.refl H2)⟩)
    (ea_cons (ev_op (ev_op (ev_var rfl) ev_c (rv_I (by decide))) (ev_op ev_c (ev_op (ev_var rfl) ev_c rv_I0) (rv_I cm)) rv_I0) (ea_cons ev_c ea_nil))) (by show 3 ≤ 100000; decide)) fun r H4 n4 e4 h4 => ?_
  exact hQ r H4 (fresh_back e2 n4) (e2.trans e4) ⟨_, _, 0, h4, by omega, by omega, by omega⟩

theorem sc__law_draw : FnScope ["pool", "many", "drawn", "mixed"] ["pool", "many"] (defScope s__law_draw) := ⟨rfl, rfl, rfl, by decide +kernel, rfl, by decide +kernel, by decide +kernel⟩
theorem ok__law_draw (D : Df K mg "_law_draw" s__law_draw ["pool", "many"] f fd) : FnG P w K mg base CX0 1 f fd ["pool", "many"] spDraw := by
  refine df_ok D sc__law_draw (fun vs H Q E h => by obtain ⟨a, l, n, rfl, _⟩ := h; rfl) (fun cdv A outer s H vs Q E hG hr h => ?_)
  obtain ⟨r, l, n, rfl, l0, l1, hn, ⟨d, sd, c, hL, sb, c0, c1⟩, hQ⟩ := h
  have nd := sc__law_draw.nd
  refine ⟨_, pss_cons (ps_if (pt_cmpR op_gt (pe_ix ix_list (pv 0) pe_int (fun _ _ => rfl)) pe_int (nomark _))
      (pss_cons (ps_set (i := 2) nd rfl (.inl rfl) (pe_op op_mod (pe_ix ix_list (pv 0) pe_int (fun _ _ => rfl)) (pv 1)))
      (pss_cons (ps_asg (pe_op op_fdivW (pe_ix ix_list (pv 0) pe_int (fun _ _ => rfl)) (pv 1)) (pg_sub (pv 0) pe_int set_list))
      (pss_one (ps_ret (pv 2))))) pss_nil)
    (pss_cons (ps_asg (pe_op op_add (pe_ix ix_list (pv 0) pe_int (fun _ _ => rfl)) pe_int) (pg_sub (pv 0) pe_int set_list))
    (pss_cons (ps_set (i := 3) nd rfl (.inl rfl) (pe_op op_mod (pe_op op_powW (pe_op op_add (pe_ix ix_list (pv 0) pe_int (fun _ _ => rfl)) (pe_op op_mul pe_int (pe_ix ix_list (pv 0) pe_int (fun _ _ => rfl)))) pe_int) pe_int))
    (pss_cons (ps_set (i := 3) nd rfl (.inl rfl) (pe_op op_mod (pe_op op_powW (pe_op op_add (pv 3) (pe_op op_mul pe_int (pe_ix ix_list (pv 0) pe_int (fun _ _ => rfl)))) pe_int) pe_int))
    (pss_one (ps_ret (pe_op op_mod (pe_op op_fdivW (pv 3) pe_int) (pv 1))))))), ?_⟩
  have ix : ∀ {σ : L2.St} {H : Hp} {xs : List V} {j : Nat} {v : V}, H r = some (.lst xs) → σ[0]? = some (some (.ref r)) → xs[j]? = some v → Ev (tOp (rIxL K) (tVar 0) (tC (.int (j : Int)))) σ H v := fun h h0 hj => ev_op (ev_var h0) ev_c (rv_ixL (sq_of h) (atI_nat hj))
  refine q_when (et_test (ev_op (ix (j := 0) hL rfl rfl) ev_c rv_I0)) (fun hb H1 e1 => ?_) (fun hb H1 e1 => ?_)
  · have hL1 := e1 _ _ hL
    refine q_asg (ev_op (ix (j := 0) hL1 rfl rfl) (ev_var rfl) (rv_I l0)) fun H2 e2 => ?_
    have hL2 := e2 _ _ hL1
    refine q_setL (j := 0) hL2 (ev_op (ix (j := 0) hL2 rfl rfl) (ev_var rfl) (rv_I ⟨l0, l1⟩)) (ev_var rfl) ev_c (by show 0 < 3; decide) fun H3 e3 => ?_
    have bu : Bu r H (upd H3 r (.lst ([V.int d, V.int sd, V.int c].set 0 (V.int (d / l))))) := (Bu.of (((e1.trans e2).trans e3))).trans Bu.upd
    refine s_ret (ev_var rfl) fun H4 e4 => hQ H4 _ (bu.trans (Bu.of e4)) (Rng.ex ⟨d / l, sd, c, upd_same, sb, c0, by omega⟩ e4) (Int.emod_nonneg _ (by omega)) (Int.emod_lt_of_pos _ l0)
  · have hL1 := e1 _ _ hL
    refine q_setL (j := 2) hL1 (ev_op (ix (j := 2) hL1 rfl rfl) ev_c rv_I0) (ev_var rfl) ev_c (by show 2 < 3; decide) fun H2 e2 => ?_
    have bu : Bu r H (upd H2 r (.lst ([V.int d, V.int sd, V.int c].set 2 (V.int (c + 1))))) := (Bu.of (e1.trans e2)).trans Bu.upd
    have hL2 : (upd H2 r (.lst ([V.int d, V.int sd, V.int c].set 2 (V.int (c + 1))))) r = some (.lst [V.int d, V.int sd, V.int (c + 1)]) := upd_same
    generalize upd H2 r (.lst ([V.int d, V.int sd, V.int c].set 2 (V.int (c + 1)))) = H3 at bu hL2 ⊢
    have cm : CMul 15487039 (c + 1) := .inl ⟨by decide, by decide⟩
    have cm2 : CMul 32452867 (c + 1) := .inl ⟨by decide, by decide⟩
    have b1 : (sd + 15487039 * (c + 1)).natAbs < 2 ^ 200 := by omega
    refine q_asg (ev_op (ev_op (ev_op (ix (j := 1) hL2 rfl rfl) (ev_op ev_c (ix (j := 2) hL2 rfl rfl) (rv_I cm)) rv_I0) ev_c (rv_I (small_log (by decide) b1 (by decide)))) ev_c (rv_I (by decide))) fun H4 e4 => ?_
    have hL4 := e4 _ _ hL2
    have m0 := Int.emod_nonneg ((sd + 15487039 * (c + 1)) ^ (3 : Int).toNat) (show (162259276829213363391578010288127 : Int) ≠ 0 by decide)
    have m1 := Int.emod_lt_of_pos ((sd + 15487039 * (c + 1)) ^ (3 : Int).toNat) (show (0 : Int) < 162259276829213363391578010288127 by decide)
    generalize (sd + 15487039 * (c + 1)) ^ (3 : Int).toNat % 162259276829213363391578010288127 = x at m0 m1 ⊢
    have b2 : (x + 32452867 * (c + 1)).natAbs < 2 ^ 200 := by omega
    refine q_asg (ev_op (ev_op (ev_op (ev_var rfl) (ev_op ev_c (ix (j := 2) hL4 rfl rfl) (rv_I cm2)) rv_I0) ev_c (rv_I (small_log5 (by decide) b2 (by decide)))) ev_c (rv_I (by decide))) fun H5 e5 => ?_
    refine s_ret (ev_op (ev_op (ev_var rfl) ev_c (rv_I ⟨by decide, by decide⟩)) (ev_var rfl) (rv_I l0)) fun H6 e6 => ?_
    exact hQ H6 _ ((bu.trans (Bu.of e4)).trans (Bu.of (e5.trans e6))) ⟨d, sd, c + 1, e6 _ _ (e5 _ _ hL4), sb, by omega, by omega⟩ (Int.emod_nonneg _ (by omega)) (Int.emod_lt_of_pos _ l0)

theorem sc__law_kinds : FnScope [] [] (defScope s__law_kinds) := ⟨rfl, rfl, rfl, by decide +kernel, rfl, by decide +kernel, by decide +kernel⟩
theorem ok__law_kinds (D : Df K mg "_law_kinds" s__law_kinds [] f fd) : FnG P w K mg base CX0 1 f fd [] (PL (preNil vKINDS)) := by
  refine df_ok D sc__law_kinds (fun vs H Q E h => by obtain ⟨xs, ⟨rfl, _⟩, _⟩ := h; rfl) (fun cdv A outer s H vs Q E hG hr h => ?_)
  obtain ⟨xs, ⟨rfl, rfl⟩, hQ⟩ := h
  refine ⟨_, pss_one (ps_ret (pe_lst (pa_cons pe_str (pa_cons pe_str (pa_cons pe_str (pa_cons pe_str (pa_cons pe_str (pa_cons pe_str (pa_cons pe_str (pa_cons pe_str (pa_cons pe_str (pa_cons pe_str (pa_cons pe_str pa_nil))))))))))))), ?_⟩
  exact s_retL (el_lst (ea_cons ev_c (ea_cons ev_c (ea_cons ev_c (ea_cons ev_c (ea_cons ev_c (ea_cons ev_c (ea_cons ev_c (ea_cons ev_c (ea_cons ev_c (ea_cons ev_c (ea_cons ev_c ea_nil))))))))))) (by decide)) hQ

theorem sc__law_model : FnScope ["pool", "top", "way", "some", "low", "found", "at", "rank"] ["pool", "top"] (defScope s__law_model) := ⟨rfl, rfl, rfl, by decide +kernel, rfl, by decide +kernel, by decide +kernel⟩
theorem ok__law_model (D : Df K mg "_law_model" s__law_model ["pool", "top"] f fd) (c1 : Cl P w K mg base 1 "_law_draw" ["pool", "many"] spDraw) (cra : mg "range" = none) (cmi : mg "min" = none) (cma : mg "max" = none) (ctu : mg "tuple" = none) (cin : mg "int" = none) (cso : mg "sorted" = none) :
    FnG P w K mg base CX0 2 f fd ["pool", "top"] (spModel K) := by
  refine df_ok D sc__law_model (fun vs H Q E h => by obtain ⟨r, top, n, rfl, _⟩ := h; rfl) (fun cdv A outer s H vs Q E hG hr h => ?_)
  obtain ⟨r, top, n, rfl, top0, top1, hn, g0, hQ⟩ := h
  have nd := sc__law_model.nd
  refine ⟨_, (pss_cons (ps_set (i := 2) nd rfl (.inr rfl) (pe_cl c1 hG hr rfl (pa_cons (pv 0) (pa_cons pe_int pa_nil)))) (pss_cons (ps_if (PW.pt (pw_and (pt_cmpR op_eq (pv 2) pe_int (nomark _)) (pw_and1 (pt_cmpR op_ge (pv 1) pe_int (nomark _))))) (pss_cons (ps_set (i := 3) nd rfl (.inl rfl) (pe_lst (pa_cons (pe_tup (pa_cons pe_int (pa_cons pe_int (pa_cons pe_int (pa_cons pe_int (pa_cons pe_int pa_nil)))))) (pa_cons (pe_tup (pa_cons pe_int (pa_cons pe_int (pa_cons pe_int (pa_cons pe_int (pa_cons pe_int pa_nil)))))) (pa_cons (pe_tup (pa_cons pe_int (pa_cons pe_int (pa_cons pe_int (pa_cons pe_int (pa_cons pe_int pa_nil)))))) (pa_cons (pe_tup (pa_cons pe_int (pa_cons pe_int (pa_cons pe_int (pa_cons pe_int (pa_cons pe_int pa_nil)))))) pa_nil)))))) (pss_one (ps_ret (pe_tup (pa_cons (pe_ix ix_list (pv 3) (pe_cl c1 hG hr rfl (pa_cons (pv 0) (pa_cons pe_int pa_nil))) (fun _ _ => rfl)) (pa_cons (pe_ix ix_str pe_str (pe_cl c1 hG hr rfl (pa_cons (pv 0) (pa_cons pe_int pa_nil))) (fun _ _ => rfl)) pa_nil)))))) pss_nil) (pss_cons (ps_set (i := 4) nd rfl (.inr rfl) (pe_ix ix_list (pe_lst (pa_cons pe_int (pa_cons pe_int (pa_cons pe_int (pa_cons (pe_callB (call_max2 rfl) (by rfl) cma (by decide +kernel) (pa_cons pe_int (pa_cons (pe_op op_sub (pv 1) pe_int) pa_nil))) pa_nil))))) (pv 2) (fun _ _ => rfl))) (pss_cons (ps_set (i := 5) nd rfl (.inl rfl) (pe_callB cr_sortedI (by rfl) cso (by decide +kernel) (pa_cons (pe_lc (own := [("rank", 7)]) (g := gName 7) (tt := tYes) rfl nd (pi_range1 (by rfl) cra (pa_cons pe_int pa_nil)) (blkOk_by (N := ["pool", "top", "way", "some", "low", "found", "at", "rank"]) (sc := defScope s__law_model) (by decide +kernel)) (fun _ _ _ _ _ => pg_name (i := 7) nd rfl (Or.inl rfl)) (fun _ _ _ _ _ => pts_nil)
      (fun _ _ _ _ _ => pe_op op_add (pv 4) (pe_cl c1 hG hr rfl (pa_cons (pv 0) (pa_cons (pe_ix (ix_list : IxR _ (rIxL K)) (pe_lst (pa_cons (pe_op op_add (pe_op op_sub (pv 1) (pv 4)) pe_int) (pa_cons (pe_callB (call_min2 rfl) (by rfl) cmi (by decide +kernel) (pa_cons pe_int (pa_cons (pe_op op_add (pe_op op_sub (pv 1) (pv 4)) pe_int) pa_nil))) pa_nil))) (pe_callTy call_int1 (by rfl) cin (by decide +kernel) (pa_cons (pe_cmpR op_gt (pv 2) pe_int (nomark _)) pa_nil)) (fun _ _ => rfl)) pa_nil))))) pa_nil))) (pss_cut (ps_if (pt_cmpR op_eq (pe_cl c1 hG hr rfl (pa_cons (pv 0) (pa_cons pe_int pa_nil))) pe_int (nomark _)) (pss_cons (ps_set (i := 6) nd rfl (.inl rfl) (pe_cl c1 hG hr rfl (pa_cons (pv 0) (pa_cons pe_int pa_nil)))) (pss_cons (ps_asg (pe_ix ix_list (pv 5) (pe_op op_add (pv 6) pe_int) (fun _ _ => rfl)) (pg_sub (pv 5) (pv 6) set_list)) (pss_one (ps_set (i := 5) nd rfl (.inl rfl) (pe_callB cr_sortedI (by rfl) cso (by decide +kernel) (pa_cons (pv 5) pa_nil)))))) pss_nil) (pss_one (ps_ret (pe_tup (pa_cons (pe_callTy call_tuple_of (by rfl) ctu (by decide +kernel) (pa_cons (pv 5) pa_nil)) (pa_cons (pe_ix ix_str pe_str (pe_cl c1 hG hr rfl (pa_cons (pv 0) (pa_cons pe_int pa_nil))) (fun _ _ => rfl)) pa_nil)))))))))), ?_⟩
  refine q_raw (draw_at (l := 4) (n := n) (ea_cons (ev_var rfl) (ea_cons ev_c ea_nil)) (by decide) (log_small (by decide)) (by omega) g0 fun H1 way b1 g1 w0 w1 => ?_)
  dsimp only [List.set]
  have tup5 : ∀ {σ : L2.St} {G : Hp} {a b c d e : Int}, EvU (tTup (tCons (tC (.int a)) (tCons (tC (.int b)) (tCons (tC (.int c)) (tCons (tC (.int d)) (tCons (tC (.int e)) tNil)))))) σ G ([a, b, c, d, e].map V.int) := eu_tup (ea_cons ev_c (ea_cons ev_c (ea_cons ev_c (ea_cons ev_c (ea_cons ev_c ea_nil))))) (by show 5 ≤ 100000; decide)
  refine q_when (et_and (et_test (ev_op (ev_var rfl) ev_c (rv_eq rfl))) fun _ => et_test (ev_op (ev_var rfl) ev_c rv_I0)) (fun hb H2 e2 => ?_) (fun _ H2 e2 => ?_)
  · have h64 : (64 : Int) ≤ top := of_decide_eq_true ((Bool.and_eq_true _ _).mp hb).2
    refine q_raw (lst_raw (ea_atU tup5 fun t0 H3 n3 e3 h3 => ea_atU tup5 fun t1 H4 n4 e4 h4 => ea_atU tup5 fun t2 H5 n5 e5 h5 => ea_atU tup5 fun t3 H6 n6 e6 h6 => ⟨by show 4 ≤ sizeLine; decide, fun l nl => ?_⟩))
    have e7 : Ex H6 (upd H6 l (.lst [.ref t0, .ref t1, .ref t2, .ref t3])) := Ex.new nl
    have h7l : (upd H6 l (.lst [.ref t0, .ref t1, .ref t2, .ref t3])) l = some (.lst [.ref t0, .ref t1, .ref t2, .ref t3]) := upd_same
    generalize upd H6 l (.lst [.ref t0, .ref t1, .ref t2, .ref t3]) = G at e7 h7l ⊢
    have e36 := (e4.trans e5).trans (e6.trans e7)
    have e1G := (e2.trans e3).trans e36
    have gG := g1.ex e1G
    dsimp only [List.set]
    refine retx (tup_raw (show tOp _ _ _ _ _ _ from op_raw ⟨_, rfl, draw_at (l := 4) (n := n + 1) (ea_cons (ev_var rfl) (ea_cons ev_c ea_nil)) (by decide) (log_small (by decide)) (by omega) gG fun H7 v b7 g7 v0 v1 => ?_⟩))
    have nlr : l ≠ r := by
      obtain ⟨d, s2, c, q, _⟩ := gG
      exact ne_of h7l q (fun z => by cases z)
    have tt : ∀ t ns, G t = some (.tup ns) → H7 t = some (.tup ns) := fun t ns h => b7 _ _ (gG.ne_tup h) h
    obtain ⟨t, ns, hat, ht, hok⟩ : ∃ (t : Addr) (ns : List Int), atI [V.ref t0, .ref t1, .ref t2, .ref t3] v = some (.ref t) ∧ H7 t = some (.tup (ns.map V.int)) ∧ ∀ u, ∃ m : Md, m.Ok ∧ m.u = u ∧ ns.map V.int = m.ws ∧ (m.w4 : Int) ≤ 64 := by
      have hv : v = 0 ∨ v = 1 ∨ v = 2 ∨ v = 3 := by omega
      rcases hv with rfl | rfl | rfl | rfl
      · exact ⟨t0, [8, 16, 16, 32, 64], rfl, tt _ _ (e36 _ _ h3), fun u => W5.md ⟨rfl, by decide⟩ (by decide) (by decide) u⟩
      · exact ⟨t1, [8, 16, 32, 32, 64], rfl, tt _ _ (e7 _ _ (e6 _ _ (e5 _ _ h4))), fun u => W5.md ⟨rfl, by decide⟩ (by decide) (by decide) u⟩
      · exact ⟨t2, [8, 16, 32, 64, 64], rfl, tt _ _ (e7 _ _ (e6 _ _ h5)), fun u => W5.md ⟨rfl, by decide⟩ (by decide) (by decide) u⟩
      · exact ⟨t3, [16, 16, 16, 32, 32], rfl, tt _ _ (e7 _ _ h6), fun u => W5.md ⟨rfl, by decide⟩ (by decide) (by decide) u⟩
    refine ⟨l, _, v, _, rfl, rfl, sq_of (b7 _ _ nlr h7l), hat, ?_⟩
    show tOp _ _ _ _ _ _
    refine su_draw (n := n + 2) g7 (by omega) rfl fun H8 u b8 g8 => ⟨by show 2 ≤ sizeLine; decide, fun p np => ?_⟩
    obtain ⟨m, ho, hu, hw, h4⟩ := hok u
    exact hQ p _ m (((b1.trans (Bu.of e1G)).trans (b7.trans b8)).trans (Bu.of (Ex.new np))) ((g8.ex (Ex.new np)).le (by omega)) (at_md np (b8 _ _ (g7.ne_tup ht) ht) hu hw) ho (by omega)
  obtain ⟨low, hlow, l0, l1⟩ : ∃ low : Int, atI [V.int 2, .int 2, .int 3, .int (if top - 6 > 2 then top - 6 else 2)] way = some (.int low) ∧ 2 ≤ low ∧ low ≤ top := by
    have hv : way = 0 ∨ way = 1 ∨ way = 2 ∨ way = 3 := by omega
    rcases hv with rfl | rfl | rfl | rfl
    · exact ⟨2, rfl, by omega, by omega⟩
    · exact ⟨2, rfl, by omega, by omega⟩
    · exact ⟨3, rfl, by omega, by omega⟩
    · exact ⟨_, rfl, by split <;> omega, by split <;> omega⟩
  refine q_asg (v := .int low) (ev_opL1 (xs := [.int 2, .int 2, .int 3, .int (if top - 6 > 2 then top - 6 else 2)]) (y := .int way) (el_lst (ea_cons ev_c (ea_cons ev_c (ea_cons ev_c (ea_cons (ev_cb (ea_cons ev_c (ea_cons (ev_op (ev_var rfl) ev_c rv_I0) ea_nil)) fun H3 e3 Q1 q1 => ⟨_, _, rfl, q1 H3 (Ex.refl H3)⟩) ea_nil)))) (by show 4 ≤ 100000; decide)) (fun H3 e3 => ev_var rfl) (fun p H3 h3 e3 => rv_ixL (sq_of h3) hlow)) fun H3 e3 => ?_
  have g3 := g1.ex (e2.trans e3)
  have b03 := b1.trans (Bu.of (e2.trans e3))
  -- the list
  refine q_raw (cb_raw (cons_raw (lcR_go (n := 5) (ea_cons ev_c ea_nil) (by decide) (fun D i G => ∃ G0, Ex H3 G0 ∧ GrW G0 r (n + 1) 2 top D i G) (fun D G0 e nD => ⟨G0, e, GrW.start (g3.ex e) nD⟩) (fun D i G hi hp => ?_) (fun D G hp => nil_raw ?_))))
  · obtain ⟨G0, e0, hp⟩ := hp
    have gi := hp.2.2.1
    refine ⟨rfl, yes_raw (iteT (op_raw ⟨_, rfl, ?_⟩))⟩
    -- the limit
    have hlim : ∀ {r1 r2}, (∀ i j : Int, ∀ G Q, Q (.int (if j < i then j else i)) G → r1 [.int i, .int j] G Q) → (∀ k : Bool, ∀ G Q, Q (.int (if k = true then 1 else 0)) G → r2 [.bl k] G Q) →
        Ev (tOp (rIxL K) (tLst (tCons (tOp (rI0 fun i j => .int (i + j)) (tOp (rI0 fun i j => .int (i - j)) (tVar 1) (tVar 4)) (tC (.int 1))) (tCons (tCB r1 (tCons (tC (.int 4)) (tCons (tOp (rI0 fun i j => .int (i + j)) (tOp (rI0 fun i j => .int (i - j)) (tVar 1) (tVar 4)) (tC (.int 1))) tNil))) tNil))) (tCB r2 (tCons (tOp (rI0 fun i j => .bl (decide (i > j))) (tVar 2) (tC (.int 1))) tNil))) [some (.ref r), some (.int top), some (.int way), none, some (.int low), none, none, some (.int (i : Nat))] G (.int (if decide (way > 1) = true then (if top - low + 1 < 4 then top - low + 1 else 4) else top - low + 1)) := fun hr1 hr2 =>
      ev_opL1 (xs := [.int (top - low + 1), .int (if top - low + 1 < 4 then top - low + 1 else 4)]) (y := .int (if decide (way > 1) = true then 1 else 0)) (el_lst (ea_cons (ev_op (ev_op (ev_var rfl) (ev_var rfl) rv_I0) ev_c rv_I0) (ea_cons (ev_cb (ea_cons ev_c (ea_cons (ev_op (ev_op (ev_var rfl) (ev_var rfl) rv_I0) ev_c rv_I0) ea_nil)) fun H4 e4 Q1 q1 => hr1 _ _ _ _ (q1 H4 (Ex.refl H4))) ea_nil)) (by show 2 ≤ 100000; decide))
        (fun H4 e4 => ev_cb (ea_cons (ev_op (ev_var rfl) ev_c rv_I0) ea_nil) fun H5 e5 Q1 q1 => hr2 _ _ _ (q1 H5 (Ex.refl H5))) (fun p H4 h4 e4 => rv_ixL (sq_of h4) (by cases decide (way > 1) <;> rfl))
    refine draw_at (l := if decide (way > 1) = true then (if top - low + 1 < 4 then top - low + 1 else 4) else top - low + 1) (n := n + 1 + i) (ea_cons (ev_var rfl) (ea_cons (hlim (fun i j G Q q => ⟨_, _, rfl, q⟩) (fun k G Q q => .inr ⟨_, rfl, q⟩)) ea_nil)) (by split <;> (try split) <;> omega) (log_small (by split <;> (try split) <;> omega)) (by omega) gi fun H4 v b4 g4 v0 v1 => ?_
    refine ⟨_, _, rfl, rfl, ?_⟩
    have hv : 2 ≤ low + v ∧ low + v ≤ top := by
      revert v1
      split <;> (try split) <;> omega
    obtain ⟨acc, a1, a2, a3⟩ := hp.step (g3.ex e0) b4 g4 hv (by omega)
    exact ⟨acc, a1, a2, G0, e0, a3⟩
  obtain ⟨G0, e0, nD, bu, gr, xs, hD, hl, hx⟩ := hp
  refine ⟨D, xs, rfl, sq_of hD, fun ns q hperm hpw nq => ?_⟩
  have hns : W5 top ns := W5.perm ⟨hl, hx⟩ hperm
  have eq1 : Ex G (upd G q (.lst (ns.map V.int))) := Ex.new nq
  have hq1 : (upd G q (.lst (ns.map V.int))) q = some (.lst (ns.map V.int)) := upd_same
  have bq : Bu r H (upd G q (.lst (ns.map V.int))) := ((b03.trans (Bu.of e0)).trans bu).trans (Bu.of eq1)
  have gq := gr.ex eq1
  have nqr : q ≠ r := gr.ne_none nq
  have nqH : H q = none := by
    cases hh : H q with
    | none => rfl
    | some o => rw [bu q o nqr (e0 _ _ (e3 _ _ (e2 _ _ (b1 q o nqr hh))))] at nq; exact nomatch nq
  generalize upd G q (.lst (ns.map V.int)) = G1 at eq1 hq1 bq gq ⊢
  dsimp only [gName, List.set]
  refine q_cut (M := fun σ' G' => ∃ (t : Addr) (ms : List Int) (y6 : Option V), σ' = [some (.ref r), some (.int top), some (.int way), none, some (.int low), some (.ref t), y6, none] ∧ G' t = some (.lst (ms.map V.int)) ∧ W5 top ms ∧ ms.Pairwise (· ≤ ·) ∧ Bu r H G' ∧ Rng G' r (n + 8)) (if_raw (test_raw (op_raw (draw_at (l := 2) (n := n + 6) (ea_cons (ev_var rfl) (ea_cons ev_c ea_nil)) (by decide) (log_small (by decide)) (by omega) gq fun G2 v b2 g2 v0 v1 => ⟨rfl, _, rfl, ?_⟩)))) (fun σ' G' hp => ?_)
  · have hq2 := b2 _ _ nqr hq1
    refine ite2 (fun _ => ?_) (fun _ => ?_)
    · refine q_raw (draw_at (l := 4) (n := n + 7) (ea_cons (ev_var rfl) (ea_cons ev_c ea_nil)) (by decide) (log_small (by decide)) (by omega) g2 fun G3 at_ b3 g3 a0 a1 => ?_)
      have hq3 := b3 _ _ nqr hq2
      dsimp only [List.set]
      obtain ⟨j, rfl⟩ : ∃ j : Nat, at_ = (j : Int) := ⟨at_.toNat, by omega⟩
      have hlen : ns.length = 5 := hns.1
      have hj : j + 1 < ns.length := by omega
      refine q_setL (j := j) (v := .int ns[j + 1]) hq3 (ev_op (ev_var rfl) (ev_op (ev_var rfl) ev_c rv_I0) (rv_ixL (i := (j : Int) + 1) (sq_of hq3) (by
          have e : ((j : Int) + 1) = ((j + 1 : Nat) : Int) := by omega
          rw [e]
          exact atI_nat (by rw [List.getElem?_map, List.getElem?_eq_getElem hj]; rfl)))) (ev_var rfl) (ev_var rfl) (by rw [List.length_map]; omega) fun G4 e4 => ?_
      have hset : (ns.map V.int).set j (.int ns[j + 1]) = (ns.set j ns[j + 1]).map V.int := by rw [List.map_set]
      rw [hset]
      have hns2 : W5 top (ns.set j ns[j + 1]) := hns.set (List.getElem_mem hj)
      have bk : Bu r H (upd G4 q (.lst ((ns.set j ns[j + 1]).map V.int))) := fun c o nc hc => by
        have ncq : c ≠ q := fun z => by rw [z, nqH] at hc; exact nomatch hc
        rw [upd_ne ncq]
        exact e4 _ _ (b3 _ _ nc (b2 _ _ nc (bq c o nc hc)))
      have gk : Rng (upd G4 q (.lst ((ns.set j ns[j + 1]).map V.int))) r (n + 8) := by
        obtain ⟨d, s, c, a, a1, a2, a3⟩ := g3.ex e4
        exact ⟨d, s, c, by rw [upd_ne (Ne.symm nqr)]; exact a, a1, a2, by omega⟩
      have hq5 : (upd G4 q (.lst ((ns.set j ns[j + 1]).map V.int))) q = some (.lst ((ns.set j ns[j + 1]).map V.int)) := upd_same
      generalize upd G4 q (.lst ((ns.set j ns[j + 1]).map V.int)) = G5 at bk gk hq5 ⊢
      refine s_raw (cb_raw (cons_raw ⟨_, rfl, nil_raw ⟨q, _, rfl, sq_of hq5, fun ms t hperm2 hpw2 nt => ?_⟩⟩))
      exact ⟨t, ms, _, rfl, upd_same, hns2.perm hperm2, hpw2, bk.trans (Bu.of (Ex.new nt)), gk.ex (Ex.new nt)⟩
    · exact ⟨q, ns, _, rfl, hq2, hns, hpw, bq.trans b2, g2.le (by omega)⟩
  obtain ⟨t, ms, y6, rfl, ht, hms, hpw2, bt, gt⟩ := hp
  refine retx (tup_raw (cons_raw (cb_raw (cons_raw ⟨_, rfl, nil_raw ⟨t, _, rfl, .inl ⟨sq_of ht, fun u nu => ?_⟩⟩⟩))))
  have eu : Ex G' (upd G' u (.tup (ms.map V.int))) := Ex.new nu
  have hu : (upd G' u (.tup (ms.map V.int))) u = some (.tup (ms.map V.int)) := upd_same
  have gu := gt.ex eu
  generalize upd G' u (.tup (ms.map V.int)) = G6 at eu hu gu ⊢
  refine cons_raw (su_draw (n := n + 8) gu (by omega) rfl fun G7 sg b7 g7 => nil_raw ⟨by show 2 ≤ sizeLine; decide, fun p np => ?_⟩)
  obtain ⟨m, ho, hmu, hw, h4⟩ := hms.md hpw2 top1 sg
  exact hQ p _ m ((bt.trans (Bu.of eu)).trans (b7.trans (Bu.of (Ex.new np)))) ((g7.ex (Ex.new np)).le (by omega)) (at_md np (b7 _ _ (gu.ne_tup hu) hu) hmu hw) ho (by omega)

theorem sc__law_word : FnScope ["caught", "some"] ["caught"] (defScope s__law_word) := ⟨rfl, rfl, rfl, by decide +kernel, rfl, by decide +kernel, by decide +kernel⟩
theorem ok__law_word {c0 c1 c2 c3 c4 c5 c6 c7 c8 cE : Addr} (D : Df K mg "_law_word" s__law_word ["caught"] f fd) (EN : ErN K mg c0 c1 c2 c3 c4 c5 c6 c7 c8 cE) (cis : mg "isinstance" = none) (cve : mg "ValueError" = none) : FnG P w K mg base CX0 1 f fd ["caught"] (spWord c0 c1 c5) := by
  refine df_ok D sc__law_word (fun vs H Q E h => by obtain ⟨a, wd, v, rfl, _⟩ := h; rfl) (fun cdv A outer s H vs Q E hG hr h => ?_)
  obtain ⟨a, wd, v, rfl, hE, hQ⟩ := h
  have nd := sc__law_word.nd
  refine ⟨_, (pss_cons (ps_set (i := 1) nd rfl (.inl rfl) (pe_lst (pa_cons (pe_callB call_isK (by rfl) cis (by decide +kernel) (pa_cons (pv 0) (pa_cons (pe_glob (v := .ref c0) rfl EN.e.g0 rfl) pa_nil))) (pa_cons (pe_callB call_isK (by rfl) cis (by decide +kernel) (pa_cons (pv 0) (pa_cons (pe_glob (v := .ref c1) rfl EN.e.g1 rfl) pa_nil))) (pa_cons (pe_callB call_isK (by rfl) cis (by decide +kernel) (pa_cons (pv 0) (pa_cons (pe_glob (v := .ref c2) rfl EN.e.g2 rfl) pa_nil))) pa_nil))))) (pss_cons (ps_set (i := 1) nd rfl (.inl rfl) (pe_op op_cat (pv 1) (pe_lst (pa_cons (pe_callB call_isK (by rfl) cis (by decide +kernel) (pa_cons (pv 0) (pa_cons (pe_glob (v := .ref c3) rfl EN.e.g3 rfl) pa_nil))) (pa_cons (pe_callB call_isK (by rfl) cis (by decide +kernel) (pa_cons (pv 0) (pa_cons (pe_glob (v := .ref c4) rfl EN.e.g4 rfl) pa_nil))) pa_nil))))) (pss_cons (ps_set (i := 1) nd rfl (.inl rfl) (pe_op op_cat (pv 1) (pe_lst (pa_cons (pe_callB call_isK (by rfl) cis (by decide +kernel) (pa_cons (pv 0) (pa_cons (pe_glob (v := .ref c5) rfl EN.e.g5 rfl) pa_nil))) (pa_cons (pe_callB call_isK (by rfl) cis (by decide +kernel) (pa_cons (pv 0) (pa_cons (pe_glob (v := .ref c6) rfl EN.e.g6 rfl) pa_nil))) pa_nil))))) (pss_cons (ps_set (i := 1) nd rfl (.inl rfl) (pe_op op_cat (pv 1) (pe_lst (pa_cons (pe_callB call_isK (by rfl) cis (by decide +kernel) (pa_cons (pv 0) (pa_cons (pe_glob (v := .ref c7) rfl EN.e.g7 rfl) pa_nil))) (pa_cons (pe_callB call_isK (by rfl) cis (by decide +kernel) (pa_cons (pv 0) (pa_cons (pe_glob (v := .ref c8) rfl EN.e.g8 rfl) pa_nil))) pa_nil))))) (pss_cons (ps_if (PW.pt (pw_or (pt_not (pt_val (pe_callB call_isK (by rfl) cis (by decide +kernel) (pa_cons (pv 0) (pa_cons (pe_glob (v := .ref cE) rfl EN.gE rfl) pa_nil))))) (pw_or (pt_not (pt_val (pe_callB call_isK (by rfl) cis (by decide +kernel) (pa_cons (pv 0) (pa_cons (pe_bltn (v := .ty "ValueError") (by rfl) cve (by decide +kernel) rfl) pa_nil))))) (pw_or1 (pt_cmpR op_ne (pe_bm PySem.F.plainAttrs_list PySem.F.slot_list_count PySem.F.type_list_count mt_countL (pv 1) (pa_cons pe_bl pa_nil)) pe_int (nomark _)))))) (pss_one (ps_ret pe_str)) pss_nil) (pss_one (ps_ret (pe_ix ix_list (pe_lst (pa_cons pe_str (pa_cons pe_str (pa_cons pe_str (pa_cons pe_str (pa_cons pe_str (pa_cons pe_str (pa_cons pe_str (pa_cons pe_str (pa_cons pe_str pa_nil)))))))))) (pe_bm PySem.F.plainAttrs_list PySem.F.slot_list_index PySem.F.type_list_index mt_index (pv 1) (pa_cons pe_bl pa_nil)) (fun _ _ => rfl))))))))), ?_⟩
  obtain ⟨b0, b1, b2, b3, b4, b5, b6, b7, b8, F, eE, i, hcnt, hidx, hno, hw⟩ : ∃ b0 b1 b2 b3 b4 b5 b6 b7 b8 : Bool, IsF K (W3.c c0 c1 c5 wd) c0 c1 c2 c3 c4 c5 c6 c7 c8 b0 b1 b2 b3 b4 b5 b6 b7 b8 ∧ PySem.W.kitOne K (.ref (W3.c c0 c1 c5 wd)) (.ref cE) = some true ∧ ∃ i : Nat,
      (([V.bl b0, .bl b1, .bl b2, .bl b3, .bl b4, .bl b5, .bl b6, .bl b7, .bl b8] : List V).countP fun z => eqV z (.bl true)) = 1 ∧ ([V.bl b0, .bl b1, .bl b2, .bl b3, .bl b4, .bl b5, .bl b6, .bl b7, .bl b8] : List V)[i]? = some (.bl true) ∧
      (∀ (m : Nat) (z' : V), m < i → ([V.bl b0, .bl b1, .bl b2, .bl b3, .bl b4, .bl b5, .bl b6, .bl b7, .bl b8] : List V)[m]? = some z' → eqV z' (.bl true) = false) ∧ ([V.str "model", .str "kind", .str "variables", .str "expression", .str "given", .str "number", .str "not", .str "undo", .str "read"] : List V)[i]? = some (.str wd.s) := by
    cases wd with
    | m => exact ⟨_, _, _, _, _, _, _, _, _, EN.e.m, EN.e0, 0, by decide, rfl, fun m z' h => absurd h (by omega), rfl⟩
    | k => exact ⟨_, _, _, _, _, _, _, _, _, EN.e.k, EN.e1, 1, by decide, rfl, fun m z' h hz => by
        have : m = 0 := by omega
        subst this
        cases (Option.some.inj hz)
        rfl, rfl⟩
    | n => exact ⟨_, _, _, _, _, _, _, _, _, EN.n, EN.e5, 5, by decide, rfl, fun m z' h hz => by
        have : m = 0 ∨ m = 1 ∨ m = 2 ∨ m = 3 ∨ m = 4 := by omega
        rcases this with rfl | rfl | rfl | rfl | rfl <;> (cases (Option.some.inj hz); rfl), rfl⟩
  generalize W3.c c0 c1 c5 wd = C at hE F eE
  have isv : ∀ {σ : L2.St} {G : Hp} {c : Addr} {b : Bool}, σ[0]? = some (some (.ref a)) → ExAt G a C v → PySem.W.kitOne K (.ref C) (.ref c) = some b → Ev (tCB (rIsK K) (tCons (tVar 0) (tCons (tC (.ref c)) tNil))) σ G (.bl b) := fun h0 he hk => ev_isK (ev_var h0) he F.e hk
  have il2 : ∀ {σ : L2.St} {G : Hp} {c d : Addr} {b b' : Bool}, σ[0]? = some (some (.ref a)) → ExAt G a C v → PySem.W.kitOne K (.ref C) (.ref c) = some b → PySem.W.kitOne K (.ref C) (.ref d) = some b' → EvL (tLst (tCons (tCB (rIsK K) (tCons (tVar 0) (tCons (tC (.ref c)) tNil))) (tCons (tCB (rIsK K) (tCons (tVar 0) (tCons (tC (.ref d)) tNil))) tNil))) σ G [.bl b, .bl b'] := fun h0 he hk hk2 => el_lst (ea_cons (isv h0 he hk) (ea_cons (isv h0 he hk2) ea_nil)) (by show 2 ≤ 100000; decide)
  refine q_asgL (xs := ([V.bl b0, V.bl b1, V.bl b2] : List V)) (el_lst (ea_cons (isv rfl hE F.k0) (ea_cons (isv rfl hE F.k1) (ea_cons (isv rfl hE F.k2) ea_nil))) (by show 3 ≤ 100000; decide)) fun l1 H1 n1 e1 h1 => ?_
  have E1 := hE.ex e1
  refine q_asgL (xs := ([V.bl b0, V.bl b1, V.bl b2] ++ [V.bl b3, V.bl b4] : List V)) (el_catV (ev_var rfl) h1 (il2 rfl E1 F.k3 F.k4) (by show 3 + 2 ≤ 100000; decide)) fun l2 H2 n2 e2 h2 => ?_
  have E2 := E1.ex e2
  refine q_asgL (xs := ([V.bl b0, V.bl b1, V.bl b2] ++ [V.bl b3, V.bl b4] ++ [V.bl b5, V.bl b6] : List V)) (el_catV (ev_var rfl) h2 (il2 rfl E2 F.k5 F.k6) (by show 5 + 2 ≤ 100000; decide)) fun l3 H3 n3 e3 h3 => ?_
  have E3 := E2.ex e3
  refine q_asgL (xs := ([V.bl b0, V.bl b1, V.bl b2] ++ [V.bl b3, V.bl b4] ++ [V.bl b5, V.bl b6] ++ [V.bl b7, V.bl b8] : List V)) (el_catV (ev_var rfl) h3 (il2 rfl E3 F.k7 F.k8) (by show 7 + 2 ≤ 100000; decide)) fun l4 H4 n4 e4 h4 => ?_
  have E4 := E3.ex e4
  have h4 : H4 l4 = some (.lst [.bl b0, .bl b1, .bl b2, .bl b3, .bl b4, .bl b5, .bl b6, .bl b7, .bl b8]) := h4
  have e04 := e1.trans (e2.trans (e3.trans e4))
  have fl : ([V.bl b0, .bl b1, .bl b2, .bl b3, .bl b4, .bl b5, .bl b6, .bl b7, .bl b8] : List V).all flatV = true := rfl
  generalize hF : ([V.bl b0, .bl b1, .bl b2, .bl b3, .bl b4, .bl b5, .bl b6, .bl b7, .bl b8] : List V) = fs at *
  have hsq : ∀ {G : Hp}, Ex H4 G → SqL K G l4 fs := fun e => sq_of (e _ _ h4)
  have evc : ∀ {σ : L2.St} {G : Hp}, σ[1]? = some (some (.ref l4)) → Ex H4 G → Ev (tBM K "list" (rCountL K) (tVar 1) (tCons (tC (.bl true)) tNil)) σ G (.int 1) := fun hs e G1 e1 Q q => ⟨_, hs, .inl ⟨rfl, fs, hsq (e.trans e1)⟩, l4, fs, .bl true, rfl, rfl, hsq (e.trans e1), rfl, fl, by
    rw [hcnt]
    exact q G1 (Ex.refl G1)⟩
  have evi : ∀ {σ : L2.St} {G : Hp}, σ[1]? = some (some (.ref l4)) → Ex H4 G → Ev (tBM K "list" (rIndex K) (tVar 1) (tCons (tC (.bl true)) tNil)) σ G (.int (i : Nat)) := fun hs e G1 e1 Q q => ⟨_, hs, .inl ⟨rfl, fs, hsq (e.trans e1)⟩, l4, fs, .bl true, i, .bl true, rfl, rfl, hsq (e.trans e1), rfl, fl, hidx, rfl, hno, q G1 (Ex.refl G1)⟩
  refine q_when (b := false) (et_is (et_or (a := false) (b := false) (et_is (et_not (et_B (isv rfl E4 eE))) rfl) fun _ => et_is (et_or (a := false) (b := false) (et_is (et_not (et_B (ev_isKT (ev_var rfl) E4 F.e F.kv))) rfl) fun _ => et_test (ev_is (ev_op (evc rfl (Ex.refl H4)) ev_c (rv_ne rfl)) (by rw [decide_eq_true rfl]; rfl))) rfl) rfl) (fun z => nomatch z) (fun _ G5 e5 => ?_)
  refine s_ret (ev_opL1 (xs := [.str "model", .str "kind", .str "variables", .str "expression", .str "given", .str "number", .str "not", .str "undo", .str "read"]) (y := .int (i : Nat)) (z := .str wd.s) (el_lst (ea_cons ev_c (ea_cons ev_c (ea_cons ev_c (ea_cons ev_c (ea_cons ev_c (ea_cons ev_c (ea_cons ev_c (ea_cons ev_c (ea_cons ev_c ea_nil))))))))) (by show 9 ≤ 100000; decide)) (fun G e => evi rfl (e5.trans e)) fun q G e => ?_) fun G6 e6 => hQ G6 (e04.trans (e5.trans e6))
  exact fun e2 => rv_ixL (sq_of e) (atI_nat hw)

theorem sc__law_bad_book : FnScope ["pool", "book", "widths", "plain", "way", "at"] ["pool", "book"] (defScope s__law_bad_book) := ⟨rfl, rfl, rfl, by decide +kernel, rfl, by decide +kernel, by decide +kernel⟩
theorem ok__law_bad_book (D : Df K mg "_law_bad_book" s__law_bad_book ["pool", "book"] f fd) (c1 : Cl P w K mg base 1 "_law_draw" ["pool", "many"] spDraw) (cli : mg "list" = none) (ctu : mg "tuple" = none) : FnG P w K mg base CX0 2 f fd ["pool", "book"] (spBad49 K) := by
  refine df_ok D sc__law_bad_book (fun vs H Q E h => by obtain ⟨r, p, m, n, rfl, _⟩ := h; rfl) (fun cdv A outer s H vs Q E hG hr h => ?_)
  obtain ⟨r, p, m, n, rfl, hm, ho, hn, g0, hQ⟩ := h
  have nd := sc__law_bad_book.nd
  refine ⟨_, (pss_cons (ps_par (i := 2) (j := 3) rfl nd rfl rfl (by decide) rfl rfl (pa_cons (pe_callTy call_list_of (by rfl) cli (by decide +kernel) (pa_cons (pe_ix ix_tup (pv 1) pe_int (fun _ _ => rfl)) pa_nil)) (pa_cons (pe_ix ix_tup (pv 1) pe_int (fun _ _ => rfl)) pa_nil)) (by rfl)) (pss_cons (ps_par (i := 4) (j := 5) rfl nd rfl rfl (by decide) rfl rfl (pa_cons (pe_cl c1 hG hr rfl (pa_cons (pv 0) (pa_cons pe_int pa_nil))) (pa_cons (pe_cl c1 hG hr rfl (pa_cons (pv 0) (pa_cons pe_int pa_nil))) pa_nil)) (by rfl)) (pss_cons (ps_if (pt_cmpR op_eq (pv 4) pe_int (nomark _)) (pss_one (ps_ret (pe_lst (pa_cons (pe_tup (pa_cons (pe_callTy call_tuple_of (by rfl) ctu (by decide +kernel) (pa_cons (pe_slice sl_list (pv 2) po_none (po_some pe_int)) pa_nil)) (pa_cons (pv 3) pa_nil))) (pa_cons pe_non pa_nil))))) pss_nil) (pss_cons (ps_if (pt_cmpR op_eq (pv 4) pe_int (nomark _)) (pss_one (ps_ret (pe_lst (pa_cons (pe_tup (pa_cons (pe_callTy call_tuple_of (by rfl) ctu (by decide +kernel) (pa_cons (pe_op op_cat (pv 2) (pe_lst (pa_cons pe_int pa_nil))) pa_nil)) (pa_cons (pv 3) pa_nil))) (pa_cons pe_non pa_nil))))) pss_nil) (pss_cons (ps_if (pt_cmpR op_eq (pv 4) pe_int (nomark _)) (pss_one (ps_ret (pe_lst (pa_cons (pe_tup (pa_cons (pe_callTy call_tuple_of (by rfl) ctu (by decide +kernel) (pa_cons (pv 2) pa_nil)) (pa_cons (pe_ix ix_list (pe_lst (pa_cons pe_str (pa_cons pe_str (pa_cons pe_str pa_nil)))) (pe_cl c1 hG hr rfl (pa_cons (pv 0) (pa_cons pe_int pa_nil))) (fun _ _ => rfl)) pa_nil))) (pa_cons pe_non pa_nil))))) pss_nil) (pss_cons (ps_asg (pe_ix ix_list (pe_lst (pa_cons pe_int (pa_cons pe_int (pa_cons (pe_op op_sub pe_int (pe_op op_powW pe_int pe_int)) pa_nil)))) (pe_op op_sub (pv 4) pe_int) (fun _ _ => rfl)) (pg_sub (pv 2) (pv 5) set_list)) (pss_one (ps_ret (pe_lst (pa_cons (pe_tup (pa_cons (pe_callTy call_tuple_of (by rfl) ctu (by decide +kernel) (pa_cons (pv 2) pa_nil)) (pa_cons (pv 3) pa_nil))) (pa_cons (pv 5) pa_nil))))))))))), ?_⟩
  obtain ⟨q0, a0, b0⟩ := hm
  refine par_raw (ea_atL (el_listT (ev_op (ev_var rfl) ev_c (rv_ixT a0 (atI_nat (j := 0) rfl))) b0) fun lw H1 n1 e1 h1 => ea_at (ev_op (ev_var rfl) ev_c (rv_ixT (ex_t e1 a0) (atI_nat (j := 1) rfl))) fun H2 e2 => nil_raw ⟨_, _, rfl, ?_⟩)
  dsimp only [List.set]
  have nlr : lw ≠ r := g0.ne_none n1
  have g2 := g0.ex (e1.trans e2)
  have h2 := e2 _ _ h1
  refine par_raw (cons_raw (draw_at (l := 6) (n := n) (ea_cons (ev_var rfl) (ea_cons ev_c ea_nil)) (by decide) (log_small (by decide)) (by omega) g2 fun H3 way b3 g3 w0 w1 => cons_raw (draw_at (l := 5) (n := n + 1) (ea_cons (ev_var rfl) (ea_cons ev_c ea_nil)) (by decide) (log_small (by decide)) (by omega) g3 fun H4 at_ b4 g4 t0 t1 => nil_raw ⟨_, _, rfl, ?_⟩)))
  obtain ⟨at_, rfl⟩ : ∃ i : Nat, at_ = (i : Int) := ⟨at_.toNat, by omega⟩
  have h4 : H4 lw = some (.lst (m.ns.map V.int)) := (b3.trans b4) _ _ nlr h2
  have b04 : Bu r H H4 := (Bu.of (e1.trans e2)).trans (b3.trans b4)
  have msm := md_sm ho
  have plsm : Sm (.str (plS m.u)) := by cases m.u <;> exact ⟨by decide, by decide⟩
  have dF : ∀ {i j : Int}, i ≠ j → decide (V.int i = V.int j) = false := fun h => decide_eq_false fun z => h (V.int.inj z)
  -- the end: a tuple u of ints, a model p2, the list
  have fin : ∀ {G G2 G3 : Hp} {u p2 q : Addr} {ns : List Int} {pl : Str} {b : V}, Bu r H G → Rng G r (n + 3) → G u = some (.tup (ns.map V.int)) → Ex G G2 → G2 p2 = none → Ex (upd G2 p2 (.tup [.ref u, .str pl])) G3 → G3 q = none → tm ns pl = some b → (b = .non ∨ ∃ i : Int, b = .int i ∧ i.natAbs < 100) → (∀ z ∈ ns, small z) → ns.length ≤ 6 → Sm (.str pl) → Q (.ref q) (upd G3 q (.lst [.ref p2, b])) := fun {G G2 G3 u p2 q ns pl b} bu g hu e np f nq ht hb hs hl hp => by
    have e3 : Ex G2 (upd G2 p2 (.tup [.ref u, .str pl])) := Ex.new np
    have e4 : Ex G3 (upd G3 q (.lst [.ref p2, b])) := Ex.new nq
    have ee := e.trans (e3.trans (f.trans e4))
    exact hQ q p2 b _ ns pl (bu.trans (Bu.of ee)) (g.ex ee) upd_same ⟨u, st_of (e4 _ _ (f _ _ upd_same)), st_of (ee _ _ hu)⟩ ht hb hs hl hp
  by_cases q0' : way = 0
  · refine q_when (b := true) (et_is (et_test (ev_op (ev_var rfl) ev_c (rv_eq rfl))) (by rw [q0']; rfl)) (fun _ H5 e5 => ?_) (fun z => nomatch z)
    refine retx (lst_raw (cons_raw (tup_raw (ea_atU (eu_tupL (el_sl (ev_var rfl) eo_none (eo_some ev_c) (sq_of (e5 _ _ h4)))) fun u G nu e hu => ea_at (ev_var rfl) fun G2 f2 => ⟨by show 2 ≤ sizeLine; decide, fun p2 np => ?_⟩))))
    refine ea_at ev_non_ fun G3 f3 => ⟨by show 2 ≤ sizeLine; decide, fun q nq => ?_⟩
    exact fin (ns := m.ns.take 4) (b04.trans (Bu.of (e5.trans e))) ((g4.ex (e5.trans e)).le (by omega)) hu f2 np f3 nq (tm_long (by show 4 ≠ 5; decide)) (.inl rfl) (fun z hz => msm z (List.mem_of_mem_take hz)) (by show 4 ≤ 6; decide) plsm
  refine q_when (b := false) (et_is (et_test (ev_op (ev_var rfl) ev_c (rv_eq rfl))) (dF q0')) (fun z => nomatch z) (fun _ H5 e5 => ?_)
  have h5 := e5 _ _ h4
  by_cases q1 : way = 1
  · refine q_when (b := true) (et_is (et_test (ev_op (ev_var rfl) ev_c (rv_eq rfl))) (by rw [q1]; rfl)) (fun _ H6 e6 => ?_) (fun z => nomatch z)
    refine retx (lst_raw (cons_raw (tup_raw (ea_atU (eu_tupL (el_catV (ev_var rfl) (e6 _ _ h5) (el_lst (ea_cons ev_c ea_nil) (by show 1 ≤ 100000; decide)) (by show 5 + 1 ≤ 100000; decide))) fun u G nu e hu => ea_at (ev_var rfl) fun G2 f2 => ⟨by show 2 ≤ sizeLine; decide, fun p2 np => ?_⟩))))
    refine ea_at ev_non_ fun G3 f3 => ⟨by show 2 ≤ sizeLine; decide, fun q nq => ?_⟩
    refine fin (ns := m.ns ++ [128]) (b04.trans (Bu.of (e5.trans (e6.trans e)))) ((g4.ex (e5.trans (e6.trans e))).le (by omega)) (by rw [List.map_append]; exact hu) f2 np f3 nq (tm_long (by show 6 ≠ 5; decide)) (.inl rfl) (fun z hz => ?_) (by show 6 ≤ 6; decide) plsm
    rcases List.mem_append.mp hz with y | y
    · exact msm z y
    · rw [List.mem_singleton.mp y]
      unfold small
      decide
  refine q_when (b := false) (et_is (et_test (ev_op (ev_var rfl) ev_c (rv_eq rfl))) (dF q1)) (fun z => nomatch z) (fun _ H6 e6 => ?_)
  have h6 := e6 _ _ h5
  have e46 := e5.trans e6
  by_cases q2 : way = 2
  · refine q_when (b := true) (et_is (et_test (ev_op (ev_var rfl) ev_c (rv_eq rfl))) (by rw [q2]; rfl)) (fun _ H7 e7 => ?_) (fun z => nomatch z)
    refine retx (lst_raw (cons_raw (tup_raw (ea_atU (eu_tupOf (ev_var rfl) (e7 _ _ h6)) fun u G nu e hu => cons_raw ?_))))
    have eG := e46.trans (e7.trans e)
    refine word_draw (ws := ["", "S", "su"]) (m := 3) (ea_cons ev_c (ea_cons ev_c (ea_cons ev_c ea_nil))) (by decide) rfl (by decide) (g4.ex eG) (by omega) rfl fun G2 sg b2 g2 hs => nil_raw ⟨by show 2 ≤ sizeLine; decide, fun p2 np => ?_⟩
    refine ea_at ev_non_ fun G3 f3 => ⟨by show 2 ≤ sizeLine; decide, fun q nq => ?_⟩
    have hu2 := b2 _ _ ((g4.ex eG).ne_tup hu) hu
    obtain ⟨s1, s2⟩ : Sm (.str sg) ∧ plOk sg = false := by
      simp only [List.mem_cons, List.not_mem_nil, or_false] at hs
      rcases hs with rfl | rfl | rfl <;> exact ⟨⟨by decide, by decide⟩, by decide⟩
    exact fin (ns := m.ns) (b04.trans ((Bu.of eG).trans b2)) (g2.le (by omega)) hu2 (Ex.refl G2) np f3 nq (tm_plain ho s2) (.inl rfl) msm (by show 5 ≤ 6; decide) s1
  refine q_when (b := false) (et_is (et_test (ev_op (ev_var rfl) ev_c (rv_eq rfl))) (dF q2)) (fun z => nomatch z) (fun _ H7 e7 => ?_)
  have h7 := e7 _ _ h6
  have e47 := e46.trans e7
  obtain ⟨bad, hbad, hbz, hbs⟩ : ∃ bad : Int, atI [V.int 1, .int 129, .int (0 - (10 : Int) ^ (20 : Int).toNat)] (way - 3) = some (.int bad) ∧ (bad < 2 ∨ 128 < bad) ∧ small bad := by
    have hw : way = 3 ∨ way = 4 ∨ way = 5 := by omega
    rcases hw with rfl | rfl | rfl
    · exact ⟨1, rfl, by decide, by unfold small; decide⟩
    · exact ⟨129, rfl, by decide, by unfold small; decide⟩
    · exact ⟨_, rfl, by decide +kernel, by unfold small; decide +kernel⟩
  refine asg_raw (?_ : tOp _ _ _ _ _ _)
  refine (ev_opL1 (xs := [.int 1, .int 129, .int (0 - (10 : Int) ^ (20 : Int).toNat)]) (y := .int (way - 3)) (z := .int bad) (el_lst (ea_cons ev_c (ea_cons ev_c (ea_cons (ev_op ev_c (ev_op ev_c ev_c (rv_I ⟨by decide, by decide, by decide⟩)) rv_I0) ea_nil))) (by show 3 ≤ 100000; decide)) (fun G e => ev_op (ev_var rfl) ev_c rv_I0) (fun q G hq e => rv_ixL (sq_of hq) hbad)) H7 (Ex.refl H7) _ fun H8 e8 => ?_
  have h8 := e8 _ _ h7
  have hat : at_ < 5 := by omega
  refine ⟨_, rfl, _, rfl, lw, _, (at_ : Int), at_, rfl, rfl, h8, ixN_nat (by show at_ < 5; exact hat), ?_⟩
  have e48 := e47.trans e8
  have b8 : Bu r H (upd H8 lw (.lst ((m.ns.map V.int).set at_ (.int bad)))) := fun c o nc hc => by
    rw [upd_ne (fun z => by rw [z, n1] at hc; exact nomatch hc)]
    exact e48 _ _ (b04 c o nc hc)
  have g8 : Rng (upd H8 lw (.lst ((m.ns.map V.int).set at_ (.int bad)))) r (n + 3) := by
    obtain ⟨d, s2, c, q1, q2, q3⟩ := g4.ex e48
    exact ⟨d, s2, c, by rw [upd_ne (Ne.symm nlr)]; exact q1, q2, by omega⟩
  have h9 : (upd H8 lw (.lst ((m.ns.map V.int).set at_ (.int bad)))) lw = some (.lst ((m.ns.set at_ bad).map V.int)) := by rw [upd_same, List.map_set]
  generalize upd H8 lw (.lst ((m.ns.map V.int).set at_ (.int bad))) = H9 at b8 g8 h9 ⊢
  refine retx (lst_raw (cons_raw (tup_raw (ea_atU (eu_tupOf (ev_var rfl) h9) fun u G nu e hu => ea_at (ev_var rfl) fun G2 f2 => ⟨by show 2 ≤ sizeLine; decide, fun p2 np => ?_⟩))))
  refine ea_at (ev_var rfl) fun G3 f3 => ⟨by show 2 ≤ sizeLine; decide, fun q nq => ?_⟩
  refine fin (ns := m.ns.set at_ bad) (b8.trans (Bu.of e)) (g8.ex e) hu f2 np f3 nq (tm_at ho hat hbz) (.inr ⟨_, rfl, by omega⟩) (fun z hz => ?_) (by rw [List.length_set]; show 5 ≤ 6; decide) plsm
  rcases List.mem_or_eq_of_mem_set hz with y | rfl
  · exact msm z y
  · exact hbs

theorem sc__law_told : FnScope ["door", "book", "one", "two", "rows", "caught", "e"] ["door", "book", "one", "two", "rows"] (defScope s__law_told) := ⟨rfl, rfl, rfl, by decide +kernel, rfl, by decide +kernel, by decide +kernel⟩
theorem ok__law_told {c0 c1 c2 c3 c4 c5 c6 c7 c8 cE : Addr} (D : Df K mg "_law_told" s__law_told ["door", "book", "one", "two", "rows"] f fd) (EN : ErN K mg c0 c1 c2 c3 c4 c5 c6 c7 c8 cE) (eM : PySem.W.exmOne K (.ref c0) (.ref cE) = some true) (eK : PySem.W.exmOne K (.ref c1) (.ref cE) = some true) (eN : PySem.W.exmOne K (.ref c5) (.ref cE) = some true)
    (d1 : ClX P w K mg base 6 "count_wrong" ["model", "first", "second"] (PX (preMXX K c0 c1))) (d2 : ClX P w K mg base 6 "first_wrong" ["model", "first", "second"] (PX (preMXX K c0 c1))) (d3 : CkX P w K mg base 6 "count_wrong" ["second", "first", "model"] gV3 (PX (preMXX K c0 c1))) (d4 : ClX P w K mg base 5 "count_beyond" ["model", "kind", "ranges"] (PX (preCBX K c0 c1 c5)))
    (cw : Cl P w K mg base 1 "_law_word" ["caught"] (spWord c0 c1 c5)) : FnG P w K mg base CX0 7 f fd ["door", "book", "one", "two", "rows"] (spTold49 K) := by
  refine df_ok D sc__law_told (fun vs H Q E h => by obtain ⟨door, p, ns, pl, x, y, l, r, rfl, _⟩ := h; rfl) (fun cdv A outer s H vs Q E hG hr h => ?_)
  obtain ⟨door, p, ns, pl, x, y, l, r, rfl, p0, p3, hm, hP, h8, hnr, hsz, hQ⟩ := h
  have nd := sc__law_told.nd
  refine ⟨_, (pss_cons (ps_set (i := 5) nd rfl (.inl rfl) pe_non) (pss_cons (ps_try_keep (i := 6) (c := .ref cE) rfl rfl rfl nd rfl rfl ⟨rfl, by decide, .inl EN.gE⟩ takes0
      (fun W pn xe tk _ => (pss_one (ps_if (pt_cmpR op_eq (pv 0) pe_int (nomark _)) (pss_one (ps_expr (pe_clX d1 hG hr tk rfl (pa_cons (pv 1) (pa_cons (pv 2) (pa_cons (pv 3) pa_nil))))))
        (pss_one (ps_if (pt_cmpR op_eq (pv 0) pe_int (nomark _)) (pss_one (ps_expr (pe_clX d2 hG hr tk rfl (pa_cons (pv 1) (pa_cons (pv 2) (pa_cons (pv 3) pa_nil))))))
        (pss_one (ps_if (pt_cmpR op_eq (pv 0) pe_int (nomark _)) (pss_one (ps_expr (pe_ckX d3 hG hr tk rfl (pk_cons (pv 3) (pk_cons (pv 2) (pk_cons (pv 1) pk_nil))))))
        (pss_one (ps_expr (pe_clX d4 hG hr tk rfl (pa_cons (pv 1) (pa_cons (pv 2) (pa_cons (pv 4) pa_nil)))))))))))))
      (fun a oe cls d pn _ _ => (pss_one (ps_set (i := 5) nd rfl (.inl rfl) (pv 6))))) (pss_one (ps_ret (pe_ifExp (pt_cmp (pc_isN (pv 5))) (pe_lst (pa_cons pe_str (pa_cons pe_non pa_nil))) (pe_lst (pa_cons (pe_cl cw hG hr rfl (pa_cons (pv 5) pa_nil)) (pa_cons (pe_xk (n := vVal) (pv 5)) pa_nil)))))))), ?_⟩
  refine q_asg ev_non_ fun H1 e1 => ?_
  have hm1 := hm.ex e1
  have hP1 := hP.ex e1
  generalize hT : toldDo door ns pl x y r = T at hQ
  have fin0 : ∀ {σ : L2.St} {H2 : Hp}, σ[5]? = some (some .non) → Ex H H2 → T = none → tIf (tB (tIsN (tVar 5))) (tLst (tCons (tC (.str "none")) (tCons (tC .non) tNil))) (tLst (tCons (tCall (spWord c0 c1 c5) [] E0 (tCons (tVar 5) tNil)) (tCons (tXk K vVal (tVar 5)) tNil))) σ H2 Q := fun {σ H2} h5 e2 ht => by
    subst ht
    refine ⟨.non, h5, _, rfl, if_true_of_ (decide_eq_true rfl) ?_⟩
    exact (el_lst (ea_cons ev_c (ea_cons ev_c ea_nil)) (by show 2 ≤ 100000; decide)) H2 (Ex.refl H2) _ fun q H3 nq e3 hq => hQ q H3 (fresh_back e2 nq) (e2.trans e3) hq
  have fin1 : ∀ {σ : L2.St} {H2 : Hp} {a : Addr} {wd : W3} {v : V}, σ[5]? = some (some (.ref a)) → Ex H H2 → ExAt H2 a (W3.c c0 c1 c5 wd) v → T = some (wd, v) → tIf (tB (tIsN (tVar 5))) (tLst (tCons (tC (.str "none")) (tCons (tC .non) tNil))) (tLst (tCons (tCall (spWord c0 c1 c5) [] E0 (tCons (tVar 5) tNil)) (tCons (tXk K vVal (tVar 5)) tNil))) σ H2 Q := fun {σ H2 a wd v} h5 e2 hx ht => by
    subst ht
    obtain ⟨fe, fno⟩ : ExcC K (W3.c c0 c1 c5 wd) ∧ PySem.W.findIn K (.ref (W3.c c0 c1 c5 wd)) vVal = some none := by
      cases wd with
      | m => exact ⟨EN.e.m.e, EN.e.m.no⟩
      | k => exact ⟨EN.e.k.e, EN.e.k.no⟩
      | n => exact ⟨EN.n.e, EN.n.no⟩
    refine ⟨.ref a, h5, _, rfl, if_false_of_ (decide_eq_false fun z => nomatch z) ?_⟩
    refine (el_lst (vs := [V.str wd.s, v]) (ea_cons (ev_call (ea_cons (ev_var h5) ea_nil) (fun G e Q2 q E2 => ⟨a, wd, v, rfl, hx.ex e, q⟩)) (ea_cons (ev_xk (ev_var h5) hx fe fno) ea_nil)) (by show 2 ≤ 100000; decide)) H2 (Ex.refl H2) _ fun q H3 nq e3 hq => hQ q H3 (fresh_back e2 nq) (e2.trans e3) hq
  have hR : ∀ {y6 : Option V} {C : Addr} {v : V} {H2 : Hp}, T.map (fun z => (W3.c c0 c1 c5 z.1, z.2)) = some (C, v) → Ex H H2 →
      Out C v H2 (fun c d H' => wKeep K (.ref cE) 6 (fun _ _ _ => tAsg (tVar 6) (gName 5)) (fun _ _ _ _ => False) { nx := fun σ' H' => tIf (tB (tIsN (tVar 5))) (tLst (tCons (tC (.str "none")) (tCons (tC .non) tNil))) (tLst (tCons (tCall (spWord c0 c1 c5) [] E0 (tCons (tVar 5) tNil)) (tCons (tXk K vVal (tVar 5)) tNil))) σ' H' Q, rt := Q } c d [some (.int door), some (.ref p), some (.str x), some (.str y), some (.ref l), some .non, y6] H') := by
    intro y6 C v H2 hC e2 d H3 nd3 e3 hd
    obtain ⟨⟨b, v2⟩, ht, hz⟩ := Option.map_eq_some_iff.mp hC
    cases hz
    refine ⟨true, by cases b; exact eM; exact eK; exact eN, fun _ a na => ?_, fun z => nomatch z⟩
    refine s_asg (ev_var rfl) fun H4 e4 => ?_
    have ea : d ≠ a := fun z => by rw [← z, hd] at na; cases na
    exact fin1 (a := a) (wd := b) (v := v2) rfl (Ex.mut ((e2.trans e3).trans e4) (fresh_back (e2.trans e3) na)) ⟨d, upd_same, by rw [upd_ne ea]; exact e4 _ _ hd⟩ ht
  have o1 : door ≠ 3 → andThen (chkM c0 ns pl) (andThen (chkK c1 x) (chkK c1 y)) = T.map fun z => (W3.c c0 c1 c5 z.1, z.2) := fun h => by
    rw [← hT]
    unfold toldDo
    rw [if_neg h]
    exact T2_eq c0 c1 c5 ns pl x y
  have o2 : door = 3 → andThen (chkM c0 ns pl) (andThen (chkK c1 x) (chkR c5 0 r)) = T.map fun z => (W3.c c0 c1 c5 z.1, z.2) := fun h => by
    rw [← hT]
    unfold toldDo
    rw [if_pos h]
    exact TB_eq c0 c1 c5 ns pl x r
  have tN : ∀ {o : Option (Addr × V)}, o = T.map (fun z => (W3.c c0 c1 c5 z.1, z.2)) → o = none → T = none := fun h z => by
    rw [h] at z
    exact Option.map_eq_none_iff.mp z
  have dT : ∀ {i j : Int}, i = j → decide (V.int i = V.int j) = true := fun h => decide_eq_true (by rw [h])
  have dF : ∀ {i j : Int}, i ≠ j → decide (V.int i = V.int j) = false := fun h => decide_eq_false fun z => h (V.int.inj z)
  refine (?_ : tIfS _ _ _ _ _ _)
  by_cases q0 : door = 0
  · refine s_if (b := true) (et_is (et_test (ev_op (ev_var rfl) ev_c (rv_eq rfl))) (dT q0)) (fun _ H2 e2 => ?_) (fun z => nomatch z)
    exact s_dropX (o := T.map fun z => (W3.c c0 c1 c5 z.1, z.2)) (ea_cons (ev_var rfl) (ea_cons (ev_var rfl) (ea_cons (ev_var rfl) ea_nil))) (fun H3 e3 => ⟨p, ns, pl, x, y, rfl, (hm1.ex e2).ex e3, (o1 (by omega)).symm⟩)
      (fun z H3 e3 => fin0 rfl ((e1.trans e2).trans e3) (tN rfl z)) (fun C v z H3 e3 => hR z ((e1.trans e2).trans e3))
  refine s_if (b := false) (et_is (et_test (ev_op (ev_var rfl) ev_c (rv_eq rfl))) (dF q0)) (fun z => nomatch z) (fun _ H2 e2 => ?_)
  by_cases q1 : door = 1
  · refine s_if (b := true) (et_is (et_test (ev_op (ev_var rfl) ev_c (rv_eq rfl))) (dT q1)) (fun _ H3 e3 => ?_) (fun z => nomatch z)
    exact s_dropX (o := T.map fun z => (W3.c c0 c1 c5 z.1, z.2)) (ea_cons (ev_var rfl) (ea_cons (ev_var rfl) (ea_cons (ev_var rfl) ea_nil))) (fun H4 e4 => ⟨p, ns, pl, x, y, rfl, ((hm1.ex e2).ex e3).ex e4, (o1 (by omega)).symm⟩)
      (fun z H4 e4 => fin0 rfl (((e1.trans e2).trans e3).trans e4) (tN rfl z)) (fun C v z H4 e4 => hR z (((e1.trans e2).trans e3).trans e4))
  refine s_if (b := false) (et_is (et_test (ev_op (ev_var rfl) ev_c (rv_eq rfl))) (dF q1)) (fun z => nomatch z) (fun _ H3 e3 => ?_)
  have e13 := (e1.trans e2).trans e3
  have hm3 := (hm1.ex e2).ex e3
  have hP3 := (hP1.ex e2).ex e3
  by_cases q2 : door = 2
  · refine s_if (b := true) (et_is (et_test (ev_op (ev_var rfl) ev_c (rv_eq rfl))) (dT q2)) (fun _ H4 e4 => ?_) (fun z => nomatch z)
    exact s_dropKX (o := T.map fun z => (W3.c c0 c1 c5 z.1, z.2)) (ea_cons (ev_var rfl) (ea_cons (ev_var rfl) (ea_cons (ev_var rfl) ea_nil))) rfl (fun H5 e5 => ⟨p, ns, pl, x, y, rfl, (hm3.ex e4).ex e5, (o1 (by omega)).symm⟩)
      (fun z H5 e5 => fin0 rfl ((e13.trans e4).trans e5) (tN rfl z)) (fun C v z H5 e5 => hR z ((e13.trans e4).trans e5))
  refine s_if (b := false) (et_is (et_test (ev_op (ev_var rfl) ev_c (rv_eq rfl))) (dF q2)) (fun z => nomatch z) (fun _ H4 e4 => ?_)
  exact s_dropX (o := T.map fun z => (W3.c c0 c1 c5 z.1, z.2)) (ea_cons (ev_var rfl) (ea_cons (ev_var rfl) (ea_cons (ev_var rfl) ea_nil))) (fun H5 e5 => ⟨p, ns, pl, x, l, r, rfl, (hm3.ex e4).ex e5, (hP3.ex e4).ex e5, h8, hnr, hsz, (o2 (by omega)).symm⟩)
      (fun z H5 e5 => fin0 rfl ((e13.trans e4).trans e5) (tN rfl z)) (fun C v z H5 e5 => hR z ((e13.trans e4).trans e5))

theorem sc__law_any : FnScope ["pool", "some"] ["pool"] (defScope s__law_any) := ⟨rfl, rfl, rfl, by decide +kernel, rfl, by decide +kernel, by decide +kernel⟩
theorem ok__law_any (D : Df K mg "_law_any" s__law_any ["pool"] f fd) (c1 : Cl P w K mg base 1 "_law_draw" ["pool", "many"] spDraw) (ck : Cl P w K mg base 1 "_law_kinds" [] (PL (preNil vKINDS))) (cin : mg "int" = none) : FnG P w K mg base CX0 2 f fd ["pool"] spAny49 := by
  refine df_ok D sc__law_any (fun vs H Q E h => by obtain ⟨r, n, rfl, _⟩ := h; rfl) (fun cdv A outer s H vs Q E hG hr h => ?_)
  obtain ⟨r, n, rfl, hn, g0, hQ⟩ := h
  have nd := sc__law_any.nd
  refine ⟨_, (pss_cons (ps_set (i := 1) nd rfl (.inl rfl) (pe_lst (pa_cons pe_str (pa_cons pe_str (pa_cons pe_str (pa_cons pe_str (pa_cons pe_str (pa_cons pe_str (pa_cons pe_str (pa_cons pe_str (pa_cons pe_str (pa_cons pe_str (pa_cons pe_str (pa_cons pe_str pa_nil)))))))))))))) (pss_one (ps_ret (pe_ix ix_list (pe_lst (pa_cons (pe_ix ix_list (pe_cl0 ck hG hr rfl) (pe_cl c1 hG hr rfl (pa_cons (pv 0) (pa_cons pe_int pa_nil))) (fun _ _ => rfl)) (pa_cons (pe_ix ix_list (pv 1) (pe_cl c1 hG hr rfl (pa_cons (pv 0) (pa_cons pe_int pa_nil))) (fun _ _ => rfl)) pa_nil))) (pe_callTy call_int1 (by rfl) cin (by decide +kernel) (pa_cons (pe_cmpR op_eq (pe_cl c1 hG hr rfl (pa_cons (pv 0) (pa_cons pe_int pa_nil))) pe_int (nomark _)) pa_nil)) (fun _ _ => rfl))))), ?_⟩
  refine q_asgL (xs := odds.map V.str) (el_lst (ea_cons ev_c (ea_cons ev_c (ea_cons ev_c (ea_cons ev_c (ea_cons ev_c (ea_cons ev_c (ea_cons ev_c (ea_cons ev_c (ea_cons ev_c (ea_cons ev_c (ea_cons ev_c (ea_cons ev_c ea_nil)))))))))))) (by show 12 ≤ 100000; decide)) fun lo H1 n1 e1 h1 => ?_
  have nlr : lo ≠ r := g0.ne_none n1
  have g1 := g0.ex e1
  refine retx (op_raw (lst_raw (cons_raw (kd_draw (n := n) g1 (by omega) rfl fun H2 kd b2 g2 => cons_raw (op_raw (var_raw rfl (draw_at (l := 12) (n := n + 1) (ea_cons (ev_var rfl) (ea_cons ev_c ea_nil)) (by decide) (log_small (by decide)) (by omega) g2 fun H3 v b3 g3 v0 v1 => ?_)))))))
  obtain ⟨i, rfl⟩ : ∃ i : Nat, v = (i : Int) := ⟨v.toNat, by omega⟩
  have hi : i < odds.length := by show i < 12; omega
  have hlo := (b2.trans b3) _ _ nlr h1
  refine ⟨lo, _, (i : Int), .str odds[i], rfl, rfl, sq_of hlo, atI_nat (by rw [List.getElem?_map, List.getElem?_eq_getElem hi]; rfl), nil_raw ⟨by show 2 ≤ sizeLine; decide, fun t nt => ?_⟩⟩
  have ntr : t ≠ r := g3.ne_none nt
  have e4 : Ex H3 (upd H3 t (.lst [kd.v, .str odds[i]])) := Ex.new nt
  have h4 : (upd H3 t (.lst [kd.v, .str odds[i]])) t = some (.lst [kd.v, .str odds[i]]) := upd_same
  generalize upd H3 t (.lst [kd.v, .str odds[i]]) = H4 at e4 h4 ⊢
  refine cb_raw (cons_raw (op_raw (draw_at (l := 3) (n := n + 2) (ea_cons (ev_var rfl) (ea_cons ev_c ea_nil)) (by decide) (log_small (by decide)) (by omega) (g3.ex e4) fun H5 u b5 g5 u0 u1 => ⟨rfl, nil_raw (.inr ⟨_, rfl, ?_⟩)⟩)))
  have h5 := b5 _ _ ntr h4
  have bb : Bu r H H5 := (Bu.of e1).trans (b2.trans (b3.trans ((Bu.of e4).trans b5)))
  by_cases hu : u = 0
  · refine ⟨t, _, _, .str odds[i], rfl, rfl, sq_of h5, (by rw [hu]; rfl), hQ H5 _ bb g5 (sm_str (odds_sm _ (List.getElem_mem hi))) (odds_ok _ (List.getElem_mem hi))⟩
  · refine ⟨t, _, _, kd.v, rfl, rfl, sq_of h5, (by rw [decide_eq_false (fun z => hu (V.int.inj z))]; rfl), hQ H5 _ bb g5 (sm_str (kd_sm kd)) (kd_strOk kd)⟩

theorem sc__law_right : FnScope ["pool", "book", "one", "two", "rows", "turn", "low", "by", "early", "free", "amount", "left", "right", "turned", "due", "late", "kept", "told", "at", "row", "door"] ["pool"] (defScope s__law_right) := ⟨rfl, rfl, rfl, by decide +kernel, rfl, by decide +kernel, by decide +kernel⟩
theorem ok__law_right (D : Df K mg "_law_right" s__law_right ["pool"] f fd) (c1 : Cl P w K mg base 1 "_law_draw" ["pool", "many"] spDraw) (ck : Cl P w K mg base 1 "_law_kinds" [] (PL (preNil vKINDS))) (cm : Cl P w K mg base 2 "_law_model" ["pool", "top"] (spModel K)) (ca : Cl P w K mg base 2 "_law_any" ["pool"] spAny49) (cb : Cl P w K mg base 2 "_law_bad_book" ["pool", "book"] (spBad49 K))
    (ct : Cl P w K mg base 7 "_law_told" ["door", "book", "one", "two", "rows"] (spTold49 K)) (cra : mg "range" = none) (cin : mg "int" = none) (cen : mg "enumerate" = none) (crp : mg "repr" = none) : FnG P w K mg base CX0 8 f fd ["pool"] spR49 := by
  refine df_ok D sc__law_right (fun vs H Q E h => by obtain ⟨r, n, rfl, _⟩ := h; rfl) (fun cdv A outer s H vs Q E hG hr h => ?_)
  obtain ⟨r, n, rfl, hn, g0, hQ⟩ := h
  have nd := sc__law_right.nd
  have hu : A.units + 3 + 64 < cLine := hr.units
  refine ⟨_, (pss_cons (ps_asg (pe_tup (pa_cons (pe_cl cm hG hr rfl (pa_cons (pv 0) (pa_cons (pe_ix ix_list (pe_lst (pa_cons pe_int (pa_cons pe_int (pa_cons pe_int pa_nil)))) (pe_cl c1 hG hr rfl (pa_cons (pv 0) (pa_cons pe_int pa_nil))) (fun _ _ => rfl)) pa_nil))) (pa_cons (pe_cl ca hG hr rfl (pa_cons (pv 0) pa_nil)) (pa_cons (pe_cl ca hG hr rfl (pa_cons (pv 0) pa_nil)) (pa_cons (pe_lst pa_nil) pa_nil))))) (pg_tup rfl (pgs_cons (pg_name (i := 1) nd rfl (.inr rfl)) (pgs_cons (pg_name (i := 2) nd rfl (.inr rfl)) (pgs_cons (pg_name (i := 3) nd rfl (.inr rfl)) (pgs_cons (pg_name (i := 4) nd rfl (.inr rfl)) pgs_nil)))))) (pss_cons (ps_for PassesOwn.never rfl (pi_range1 (by rfl) cra (pa_cons (pe_cl c1 hG hr rfl (pa_cons (pv 0) (pa_cons pe_int pa_nil))) pa_nil)) (pg_name (i := 5) nd rfl (.inl rfl)) (pss_cons (ps_par (i := 6) (j := 7) rfl nd rfl rfl (by decide) rfl rfl (pa_cons (pe_op op_sub (pe_cl c1 hG hr rfl (pa_cons (pv 0) (pa_cons (pe_op op_powW pe_int pe_int) pa_nil))) (pe_op op_powW pe_int pe_int)) (pa_cons (pe_cl c1 hG hr rfl (pa_cons (pv 0) (pa_cons (pe_op op_powW pe_int pe_int) pa_nil))) pa_nil)) (by rfl)) (pss_one (ps_expr (pe_bm PySem.F.plainAttrs_list PySem.F.slot_list_append PySem.F.type_list_append mt_append (pv 4) (pa_cons (pe_ifExp (pt_cmpR op_gt (pe_cl c1 hG hr rfl (pa_cons (pv 0) (pa_cons pe_int pa_nil))) pe_int (nomark _)) (pe_tup (pa_cons (pv 6) (pa_cons (pe_op op_add (pv 6) (pv 7)) pa_nil))) (pe_tup (pa_cons (pv 6) (pa_cons (pe_op op_sub (pe_op op_sub (pv 6) pe_int) (pv 7)) pa_nil)))) pa_nil)))))) (pss_cons (ps_par (i := 8) (j := 9) rfl nd rfl rfl (by decide) rfl rfl (pa_cons (pe_lst pa_nil) (pa_cons (pe_lst (pa_cons (pe_lst (pa_cons pe_str (pa_cons pe_non pa_nil))) pa_nil)) pa_nil)) (by rfl)) (pss_cut (ps_if (pt_cmpR op_eq (pe_cl c1 hG hr rfl (pa_cons (pv 0) (pa_cons pe_int pa_nil))) pe_int (nomark _)) (pss_cons (ps_asg (pe_cl cb hG hr rfl (pa_cons (pv 0) (pa_cons (pv 1) pa_nil))) (pg_unl rfl (pgs_cons (pg_name (i := 1) nd rfl (.inr rfl)) (pgs_cons (pg_name (i := 10) nd rfl (.inl rfl)) pgs_nil)))) (pss_one (ps_set (i := 8) nd rfl (.inl rfl) (pe_lst (pa_cons (pe_lst (pa_cons pe_str (pa_cons (pv 10) pa_nil))) pa_nil))))) pss_nil) (pss_cons (ps_par (i := 11) (j := 12) rfl nd rfl rfl (by decide) rfl rfl (pa_cons (pe_op op_rep (pe_lst (pa_cons (pe_lst (pa_cons pe_str (pa_cons (pv 2) pa_nil))) pa_nil)) (pe_callTy call_int1 (by rfl) cin (by decide +kernel) (pa_cons (pe_cmpR op_notIn_seq (pv 2) (pe_cl0 ck hG hr rfl) (by rfl)) pa_nil))) (pa_cons (pe_op op_rep (pe_lst (pa_cons (pe_lst (pa_cons pe_str (pa_cons (pv 3) pa_nil))) pa_nil)) (pe_callTy call_int1 (by rfl) cin (by decide +kernel) (pa_cons (pe_cmpR op_notIn_seq (pv 3) (pe_cl0 ck hG hr rfl) (by rfl)) pa_nil))) pa_nil)) (by rfl)) (pss_cons (ps_setLc (i := 13) (own := [("at", 18), ("row", 19)]) (g := gTup K 2 (gCons (gName 18) (gCons (gName 19) gNil))) rfl nd rfl rfl (sw_true rfl rfl rfl (by decide +kernel)) (pi_enum rfl cen (pa_cons (pv 4) pa_nil)) (blkOk_by (N := ["pool", "book", "one", "two", "rows", "turn", "low", "by", "early", "free", "amount", "left", "right", "turned", "due", "late", "kept", "told", "at", "row", "door"]) (sc := defScope s__law_right) (by decide +kernel)) (fun _ _ _ _ _ => pg_tup rfl (pgs_cons (pg_name (i := 18) nd rfl (Or.inl rfl)) (pgs_cons (pg_name (i := 19) nd rfl (Or.inl rfl)) pgs_nil))) (fun _ _ _ _ _ => pts_one (pt_cmpR op_gt (pe_ix (ix_tup : IxR _ (rIxT K)) (pv 19) pe_int (fun _ _ => rfl)) (pe_ix (ix_tup : IxR _ (rIxT K)) (pv 19) pe_int (fun _ _ => rfl)) (nomark _))) (fun _ _ _ _ _ => pe_lst (pa_cons pe_str (pa_cons (pv 18) pa_nil)))) (pss_cons (ps_set (i := 14) nd rfl (.inl rfl) (pe_ix ix_list (pe_op op_cat (pe_op op_cat (pe_op op_cat (pv 8) (pv 11)) (pv 12)) (pv 9)) pe_int (fun _ _ => rfl))) (pss_cons (ps_set (i := 15) nd rfl (.inl rfl) (pe_ix ix_list (pe_op op_cat (pe_op op_cat (pe_op op_cat (pv 8) (pv 11)) (pv 13)) (pv 9)) pe_int (fun _ _ => rfl))) (pss_cons (ps_par (i := 16) (j := 17) rfl nd rfl rfl (by decide) rfl rfl (pa_cons (pe_callB (call_repr hG hu) (by rfl) crp (by decide +kernel) (pa_cons (pe_lst (pa_cons (pv 1) (pa_cons (pv 4) pa_nil))) pa_nil)) (pa_cons (pe_lc (own := [("door", 20)]) (g := gName 20) (tt := tYes) rfl nd (pi_range1 (by rfl) cra (pa_cons pe_int pa_nil)) (blkOk_by (N := ["pool", "book", "one", "two", "rows", "turn", "low", "by", "early", "free", "amount", "left", "right", "turned", "due", "late", "kept", "told", "at", "row", "door"]) (sc := defScope s__law_right) (by decide +kernel)) (fun _ _ _ _ _ => pg_name (i := 20) nd rfl (Or.inl rfl)) (fun _ _ _ _ _ => pts_nil) (fun _ _ _ _ _ => pe_cl ct hG hr rfl (pa_cons (pv 20) (pa_cons (pv 1) (pa_cons (pv 2) (pa_cons (pv 3) (pa_cons (pv 4) pa_nil))))))) pa_nil)) (by rfl)) (pss_one (ps_ret (pe_and (pe_cmpR (op_eqD hu) (pv 17) (pe_op op_cat (pe_op op_rep (pe_lst (pa_cons (pv 14) pa_nil)) pe_int) (pe_lst (pa_cons (pv 15) pa_nil))) (nomark _)) (pe_one (pe_cmpR op_eq (pe_callB (call_repr hG hu) (by rfl) crp (by decide +kernel) (pa_cons (pe_lst (pa_cons (pv 1) (pa_cons (pv 4) pa_nil))) pa_nil)) (pv 16) (nomark _))))))))))))))), ?_⟩
  have hp : ∀ {k : Int} {σ : L2.St} {G : Hp}, 0 ≤ k ∧ k ≤ 100 → Ev (tOp (rI CPowW fun i j => .int (i ^ j.toNat)) (tC (.int 10)) (tC (.int k))) σ G (.int ((10 : Int) ^ k.toNat)) := fun h => ev_op ev_c ev_c (rv_I ⟨h.1, h.2, by decide⟩)
  have hp20 := fun (σ : L2.St) (G : Hp) => hp (k := 20) (σ := σ) (G := G) (by decide)
  have hp19 := fun (σ : L2.St) (G : Hp) => hp (k := 19) (σ := σ) (G := G) (by decide)
  have hp18 := fun (σ : L2.St) (G : Hp) => hp (k := 18) (σ := σ) (G := G) (by decide)
  have q20 : (1 : Int) ≤ (10 : Int) ^ (20 : Int).toNat ∧ (10 : Int) ^ (20 : Int).toNat < 2 ^ 67 := by decide +kernel
  have q19 : (1 : Int) ≤ (10 : Int) ^ (19 : Int).toNat ∧ (10 : Int) ^ (19 : Int).toNat < 2 ^ 67 := by decide +kernel
  have q18 : (1 : Int) ≤ (10 : Int) ^ (18 : Int).toNat ∧ (10 : Int) ^ (18 : Int).toNat < 2 ^ 61 := by decide +kernel
  clear hp
  generalize (10 : Int) ^ (20 : Int).toNat = P20 at hp20 q20
  generalize (10 : Int) ^ (19 : Int).toNat = P19 at hp19 q19
  generalize (10 : Int) ^ (18 : Int).toNat = P18 at hp18 q18
  -- the scene
  refine asg_raw (tup_raw (cons_raw (call_raw (cons_raw (var_raw rfl (cons_raw (op_raw ((el_lst (ea_cons (ev_c (v := .int 6)) (ea_cons (ev_c (v := .int 64)) (ea_cons (ev_c (v := .int 128)) ea_nil))) (by show 3 ≤ 100000; decide)) H (Ex.refl H) _ fun t H1 nt e1 ht => draw_at (l := 3) (n := n) (ea_cons (ev_var rfl) (ea_cons ev_c ea_nil)) (by decide) (log_small (by decide)) (by omega) (g0.ex e1) fun H2 v b2 g2 v0 v1 => ?_))))))))
  have ntr : t ≠ r := g0.ne_none nt
  obtain ⟨top, htop, t4, t128⟩ : ∃ top : Int, atI [V.int 6, V.int 64, V.int 128] v = some (.int top) ∧ 4 ≤ top ∧ top ≤ 128 := by
    have hv : v = 0 ∨ v = 1 ∨ v = 2 := by omega
    rcases hv with rfl | rfl | rfl
    · exact ⟨6, rfl, by decide, by decide⟩
    · exact ⟨64, rfl, by decide, by decide⟩
    · exact ⟨128, rfl, by decide, by decide⟩
  refine ⟨t, _, v, _, rfl, rfl, sq_of (b2 _ _ ntr ht), htop, nil_raw ⟨r, top, n + 1, rfl, t4, t128, by omega, g2, fun p0 H3 m b3 g3 hm0 ho _ => ?_⟩⟩
  refine cons_raw (call_raw (cons_raw (var_raw rfl (nil_raw ⟨r, n + 1 + 20, rfl, by omega, g3, fun H4 x b4 g4 hx hx2 => ?_⟩))))
  refine cons_raw (call_raw (cons_raw (var_raw rfl (nil_raw ⟨r, n + 1 + 20 + 3, rfl, by omega, g4, fun H5 y b5 g5 hy hy2 => ?_⟩))))
  refine cons_raw (lst_raw (nil_raw ⟨by show 0 ≤ sizeLine; decide, fun rl nrl => nil_raw ⟨by show 4 ≤ sizeLine; decide, fun t6 nt6 => ?_⟩⟩))
  have e6 : Ex H5 (upd H5 rl (.lst [])) := Ex.new nrl
  have h6 : (upd H5 rl (.lst [])) rl = some (.lst []) := upd_same
  generalize upd H5 rl (.lst []) = H6 at nt6 e6 h6 ⊢
  have e7 : Ex H6 (upd H6 t6 (.tup [.ref p0, .str x, .str y, .ref rl])) := Ex.new nt6
  have h7 : (upd H6 t6 (.tup [.ref p0, .str x, .str y, .ref rl])) t6 = some (.tup [.ref p0, .str x, .str y, .ref rl]) := upd_same
  generalize upd H6 t6 (.tup [.ref p0, .str x, .str y, .ref rl]) = H7 at e7 h7 ⊢
  refine ⟨t6, _, rfl, st_of h7, rfl, _, _, rfl, _, _, rfl, _, _, rfl, _, _, rfl, rfl, ?_⟩
  have b57 := e6.trans e7
  have b07 : Bu r H H7 := (Bu.of e1).trans (b2.trans (b3.trans (b4.trans (b5.trans (Bu.of b57)))))
  have g7 := g5.ex b57
  have hm7 : AtX K H7 p0 m.ns (plS m.u) := ((AtX.bu b5 g4 (AtX.bu b4 g3 (show AtX K H3 p0 m.ns (plS m.u) from hm0)))).ex b57
  have nlr : rl ≠ r := g5.ne_none nrl
  have nrH : H rl = none := by
    cases hh : H rl with
    | none => rfl
    | some o => rw [((Bu.of e1).trans (b2.trans (b3.trans (b4.trans b5)))) rl o nlr hh] at nrl; exact nomatch nrl
  have h7l := e7 _ _ h6
  clear hm0 h6 nt6 nrl ht htop
  refine (?_ : tSeq _ _ _ ([some (.ref r), some (.ref p0), some (.str x), some (.str y), some (.ref rl), none, none, none, none, none, none, none, none, none, none, none, none, none, none, none, none] : L2.St) H7)
  -- rows
  refine qfor_raw (cons_raw (draw_at (l := 9) (n := n + 1 + 20 + 3 + 3) (ea_cons (ev_var rfl) (ea_cons ev_c ea_nil)) (by decide) (log_small (by decide)) (by omega) g7 fun H8 many b8 g8 m0 m1 => nil_raw ⟨many, rfl, by omega, by omega, forB_of (fun i σ G => ∃ (L : List PrA) (y5 y6 y7 : Option V), σ = [some (.ref r), some (.ref p0), some (.str x), some (.str y), some (.ref rl), y5, y6, y7, none, none, none, none, none, none, none, none, none, none, none, none, none] ∧ Bu r H G ∧ Rng G r (n + 28 + 3 * i) ∧ AtX K G p0 m.ns (plS m.u) ∧ G rl = some (.lst (prV L)) ∧ PrsIn G L ∧ L.length ≤ i ∧ ∀ z ∈ L, z.2.1.natAbs < 2 ^ 70 ∧ z.2.2.natAbs < 2 ^ 70 ∧ z.2.2 - z.2.1 < 2 ^ 62)
    ⟨[], none, none, none, rfl, b07.trans b8, g8.le (by omega), hm7.bu b8 g7, b8 _ _ nlr h7l, (fun x hx => nomatch hx), Nat.le_refl _, (fun x hx => nomatch hx)⟩ (fun i σ G hi hp => ?_) (fun σ G hp => ?_)⟩))
  · obtain ⟨L, y5, y6, y7, rfl, bG, gG, hmG, hL, hin, hLl, hfit⟩ := hp
    have hi8 : i < 8 := by omega
    dsimp only [List.set]
    refine par_raw (cons_raw (op_raw (draw_at (l := P20) (n := n + 28 + 3 * i) (ea_cons (ev_var rfl) (ea_cons (hp20 _ _) ea_nil)) (by omega) (log_small (by omega)) (by omega) gG fun G1 u b1 g1 u0 u1 => ?_)))
    refine (hp19 _ _) G1 (Ex.refl G1) _ fun G2 f2 => ?_
    refine ⟨_, _, rfl, rfl, cons_raw (draw_at (l := P18) (n := n + 28 + 3 * i + 1) (ea_cons (ev_var rfl) (ea_cons (hp18 _ _) ea_nil)) (by omega) (log_small (by omega)) (by omega) (g1.ex f2) fun G3 w b3' g3' w0 w1 => nil_raw ⟨_, _, rfl, ?_⟩)⟩
    dsimp only [List.set]
    have b13 : Bu r G G3 := b1.trans ((Bu.of f2).trans b3')
    have hL3 := b13 _ _ nlr hL
    have hin3 : PrsIn G3 L := fun x hx => TupK.bu b13 gG _ _ (hin x hx)
    refine sdrop_raw (app_raw rfl hL3 (cons_raw (tifE_raw (test_raw (op_raw (draw_at (l := 6) (n := n + 28 + 3 * i + 2) (ea_cons (ev_var rfl) (ea_cons ev_c ea_nil)) (by decide) (log_small (by decide)) (by omega) g3' fun G4 z b4' g4' z0 z1 => ⟨_, _, rfl, rfl, _, rfl, ?_⟩))))))
    have b34 := b13.trans b4'
    have fin1 : ∀ {G5 : Hp} {q : Addr} {hi : Int}, G4 q = none → Ex G4 G5 → G5 q = some (.tup [.int (u - P19), .int hi]) → hi.natAbs < 2 ^ 70 → hi - (u - P19) < 2 ^ 62 → rAppend (.ref rl) [.ref q] G5 (fun _ H' => ∃ (L : List PrA) (y5 y6 y7 : Option V), [some (.ref r), some (.ref p0), some (.str x), some (.str y), some (.ref rl), some (.int (i : Nat)), some (.int (u - P19)), some (.int w), none, none, none, none, none, none, none, none, none, none, none, none, none] = [some (.ref r), some (.ref p0), some (.str x), some (.str y), some (.ref rl), y5, y6, y7, none, none, none, none, none, none, none, none, none, none, none, none, none] ∧ Bu r H H' ∧ Rng H' r (n + 28 + 3 * (i + 1)) ∧ AtX K H' p0 m.ns (plS m.u) ∧ H' rl = some (.lst (prV L)) ∧ PrsIn H' L ∧ L.length ≤ i + 1 ∧ ∀ z ∈ L, z.2.1.natAbs < 2 ^ 70 ∧ z.2.2.natAbs < 2 ^ 70 ∧ z.2.2 - z.2.1 < 2 ^ 62) := fun {G5 q hi} nq e5 hq h1 h2 => by
      have b5' := b34.trans (Bu.of e5)
      have hL5 := b5' _ _ nlr hL
      have tk := TupK.bu b5' gG
      have bb : ∀ c o, c ≠ rl → G5 c = some o → (upd G5 rl (.lst (prV L ++ [.ref q]))) c = some o := fun c o nc hc => by rw [upd_ne nc]; exact hc
      have ntl : ∀ {c xs}, G5 c = some (.tup xs) → c ≠ rl := fun hc y => by rw [y, hL5] at hc; exact nomatch hc
      have bU : Bu r H (upd G5 rl (.lst (prV L ++ [.ref q]))) := fun c o nc hc => bb c o (fun y => by rw [y, nrH] at hc; exact nomatch hc) (b5' c o nc (bG c o nc hc))
      have tkU : TupK G (upd G5 rl (.lst (prV L ++ [.ref q]))) := fun c xs hc => bb c _ (ntl (tk c xs hc)) (tk c xs hc)
      refine ⟨rl, prV L, _, rfl, rfl, hL5, by unfold prV; rw [List.length_map]; exact sz_lt (by omega), L ++ [(q, (u - P19, hi))], _, _, _, rfl, bU, ?_, atX_upd hL5 (hmG.bu b5' gG), ?_, ?_, ?_, ?_⟩
      · obtain ⟨d, s2, c, q1, q2, q3⟩ := g4'.ex e5
        exact ⟨d, s2, c, bb _ _ (Ne.symm nlr) q1, q2, by omega⟩
      · unfold prV
        rw [List.map_append]
        exact upd_same
      · intro z hz
        rcases List.mem_append.mp hz with y | y
        · exact tkU _ _ (hin z y)
        · rw [List.mem_singleton.mp y]
          exact bb _ _ (ntl hq) hq
      · rw [List.length_append]
        show L.length + 1 ≤ _
        omega
      · intro z hz
        rcases List.mem_append.mp hz with y | y
        · exact hfit z y
        · rw [List.mem_singleton.mp y]
          exact ⟨by show (u - P19).natAbs < _; omega, h1, h2⟩
    refine ite2 (fun _ => ?_) (fun _ => ?_)
    · refine (eu_tup (ea_cons (ev_var rfl) (ea_cons (ev_op (ev_var rfl) (ev_var rfl) rv_I0) ea_nil)) (by show 2 ≤ 100000; decide)) G4 (Ex.refl G4) _ fun q G5 nq f5 hq => nil_raw (fin1 nq f5 hq (by omega) (by omega))
    · refine (eu_tup (ea_cons (ev_var rfl) (ea_cons (ev_op (ev_op (ev_var rfl) ev_c rv_I0) (ev_var rfl) rv_I0) ea_nil)) (by show 2 ≤ 100000; decide)) G4 (Ex.refl G4) _ fun q G5 nq f5 hq => nil_raw (fin1 nq f5 hq (by omega) (by omega))
  obtain ⟨L, y5, y6, y7, rfl, bG, gG, hmG, hL, hin, hLl, hfit⟩ := hp
  have hP : PrsAt G rl (L.map (·.2)) := ⟨L, hL, hin, rfl⟩
  have h8 : (L.map (·.2)).length ≤ 8 := by rw [List.length_map]; omega
  have hnr : nearP (L.map (·.2)) := fun q hq => by
    obtain ⟨z, hz, rfl⟩ := List.mem_map.mp hq
    have := hfit z hz
    omega
  have hszs : sizesP (L.map (·.2)) := fun q hq => by
    obtain ⟨z, hz, rfl⟩ := List.mem_map.mp hq
    exact (hfit z hz).2.2
  generalize L.map (·.2) = R at hP h8 hnr hszs
  clear hL hin hLl hfit
  have gG : Rng G r (n + 52) := gG.le (by omega)
  -- early, free
  refine par_raw (ea_atL (el_lst ea_nil (by decide)) fun el G1 n1 f1 h1 => cons_raw (lst_raw (ea_atL (el_lst (ea_cons ev_c (ea_cons ev_non_ ea_nil)) (by show 2 ≤ 100000; decide)) fun fr G2 n2 f2 h2 => ⟨by show 1 ≤ sizeLine; decide, fun fl nfl => nil_raw ⟨_, _, rfl, ?_⟩⟩)))
  dsimp only [List.set]
  have f3 : Ex G2 (upd G2 fl (.lst [.ref fr])) := Ex.new nfl
  have h3 : (upd G2 fl (.lst [.ref fr])) fl = some (.lst [.ref fr]) := upd_same
  have nflr : fl ≠ r := (gG.ex (f1.trans f2)).ne_none nfl
  generalize upd G2 fl (.lst [.ref fr]) = G3 at f3 h3 ⊢
  have f03 := f1.trans (f2.trans f3)
  have hel := (f2.trans f3) _ _ h1
  have hfr := f3 _ _ h2
  have nelr : el ≠ r := gG.ne_none n1
  have nfrr : fr ≠ r := (gG.ex f1).ne_none n2
  have g3' := gG.ex f03
  -- a wrong model
  refine q_cut (M := fun σ' G' => ∃ p ns pl el ys y10, σ' = [some (.ref r), some (.ref p), some (.str x), some (.str y), some (.ref rl), y5, y6, y7, some (.ref el), some (.ref fl), y10, none, none, none, none, none, none, none, none, none, none] ∧ Bu r G3 G' ∧ Rng G' r (n + 56) ∧ AtX K G' p ns pl ∧ G' el = some (.lst ys) ∧ ys.length ≤ 1 ∧ Hd G' ((tm ns pl).map fun v => (W3.m, v)) ys ∧ (∀ v, tm ns pl = some v → v = .non ∨ ∃ i, v = .int i) ∧ (∀ z ∈ ns, small z) ∧ ns.length ≤ 6 ∧ Sm (.str pl)) (if_raw (test_raw (op_raw (draw_at (l := 4) (n := n + 52) (ea_cons (ev_var rfl) (ea_cons ev_c ea_nil)) (by decide) (log_small (by decide)) (by omega) g3' fun G4 v b4' g4' v0 v1 => ⟨rfl, _, rfl, ite2 (fun _ => ?_) (fun _ => ?_)⟩)))) (fun σ' G' hp => ?_)
  · refine asg_raw (call_raw (cons_raw (var_raw rfl (cons_raw (var_raw rfl (nil_raw ⟨r, p0, m, n + 52 + 1, rfl, (AtX.bu b4' g3' (hmG.ex f03) : AtX K G4 p0 m.ns (plS m.u)), ho, by omega, g4', fun q a b G5 ns pl b5' g5' hq ha htm hb hs hl hpl => ?_⟩))))))
    refine ⟨q, _, rfl, sq_of hq, rfl, _, _, rfl, _, _, rfl, rfl, ?_⟩
    refine s_raw (lst_raw (ea_atL (el_lst (ea_cons ev_c (ea_cons (ev_var rfl) ea_nil)) (by show 2 ≤ 100000; decide)) fun c G6 nc f6 hc => ⟨by show 1 ≤ sizeLine; decide, fun el2 nel2 => ?_⟩))
    have f7 : Ex G6 (upd G6 el2 (.lst [.ref c])) := Ex.new nel2
    refine ⟨a, ns, pl, el2, [.ref c], some b, rfl, b4'.trans (b5'.trans (Bu.of (f6.trans f7))), (g5'.ex (f6.trans f7)).le (by omega), ha.ex (f6.trans f7), upd_same, Nat.le_refl _, ?_, ?_, hs, hl, hpl⟩
    · rw [htm]
      exact ⟨c, [], rfl, f7 _ _ hc⟩
    · intro v hv
      rw [htm] at hv
      cases hv
      rcases hb with h | ⟨i, h, _⟩
      · exact .inl h
      · exact .inr ⟨i, h⟩
  · refine ⟨p0, m.ns, plS m.u, el, [], none, rfl, b4', g4'.le (by omega), AtX.bu b4' g3' (hmG.ex f03), b4' _ _ nelr hel, Nat.zero_le _, ?_, ?_, md_sm ho, by show 5 ≤ 6; decide, by cases m.u <;> exact ⟨by decide, by decide⟩⟩
    · rw [tm_good ho]
      rfl
    · intro v hv
      rw [tm_good ho] at hv
      exact nomatch hv
  obtain ⟨p, ns, pl, el', ys, y10, rfl, b', g', hA, hel', hyl, hHd, hbv, hsm, hnl, hpl⟩ := hp
  have hfl' := b' _ _ nflr h3
  have hfr' := b' _ _ nfrr hfr
  have hP' := (hP.ex f03).bu nlr g3' b'
  have bH : Bu r H G' := bG.trans ((Bu.of f03).trans b')
  -- left, right
  have kl : ∀ {r2 : List V → Hp → VK → Prop} {σ : L2.St} {G : Hp} {j : Nat} {x : Str} {Q2 : VK}, (∀ (k : Bool) G Q, Q (.int (if k = true then 1 else 0)) G → r2 [.bl k] G Q) → σ[j]? = some (some (.str x)) → (∀ a zs G1, Ex G G1 → G1 a = some (.lst zs) → zs.length ≤ 1 → Hd G1 ((tkd x).map fun v => (W3.k, v)) zs → Q2 (.ref a) G1) →
      tOp rRep (tLst (tCons (tLst (tCons (tC (.str "kind")) (tCons (tVar j) tNil))) tNil)) (tCB r2 (tCons (tOp (rIn K true) (tVar j) (tCall (PL (preNil vKINDS)) [] E0 tNil)) tNil)) σ G Q2 := by
    intro r2 σ G j x Q2 h2 hj hq
    refine op_raw (lst_raw (ea_atL (el_lst (ea_cons ev_c (ea_cons (ev_var hj) ea_nil)) (by show 2 ≤ 100000; decide)) fun c G1 nc e1 hc => ⟨by show 1 ≤ sizeLine; decide, fun d nd => ?_⟩))
    have e2 : Ex G1 (upd G1 d (.lst [.ref c])) := Ex.new nd
    have hd : (upd G1 d (.lst [.ref c])) d = some (.lst [.ref c]) := upd_same
    generalize upd G1 d (.lst [.ref c]) = G2 at e2 hd ⊢
    have hev : Ev (tOp (rIn K true) (tVar j) (tCall (PL (preNil vKINDS)) [] E0 tNil)) σ G2 (.bl (!kdOk x)) := ev_opL (xs := vKINDS) (ev_var hj) (el_call ea_nil (PL.sp fun H7 e7 => ⟨rfl, rfl⟩)) fun p G k e => rv_niL (sq_of k) rfl rfl
    refine cb_raw (cons_raw (hev G2 (Ex.refl G2) _ fun G3 e3 => nil_raw (h2 _ _ _ ?_)))
    have hd3 := e3 _ _ hd
    have e03 := e1.trans (e2.trans e3)
    cases hk : kdOk x with
    | true =>
      refine ⟨d, 0, [.ref c], rfl, rfl, hd3, by decide, by decide, by show 1 * 0 ≤ sizeLine; decide, fun p np => ?_⟩
      refine hq p [] _ (e03.trans (Ex.new np)) upd_same (Nat.zero_le _) ?_
      unfold tkd
      rw [hk]
      rfl
    | false =>
      refine ⟨d, 1, [.ref c], rfl, rfl, hd3, by decide, by decide, by show 1 * 1 ≤ sizeLine; decide, fun p np => ?_⟩
      have e4 : Ex G3 (upd G3 p (.lst (List.replicate (1 : Int).toNat [V.ref c]).flatten)) := Ex.new np
      refine hq p [.ref c] _ (e03.trans e4) upd_same (Nat.le_refl _) ?_
      unfold tkd
      rw [hk]
      exact ⟨c, [], rfl, e4 _ _ (e3 _ _ (e2 _ _ hc))⟩
  refine par_raw (cons_raw ?_)
  refine kl (j := 2) (x := x) (fun k G Q q => .inr ⟨_, rfl, q⟩) rfl fun lf zs G1 k1 hlf hzl hzs => ?_
  refine cons_raw ?_
  refine kl (j := 3) (x := y) (fun k G Q q => .inr ⟨_, rfl, q⟩) rfl fun rt ws G2 k2 hrt hwl hws => ?_
  refine nil_raw ⟨_, _, rfl, ?_⟩
  dsimp only [List.set]
  have k12 := k1.trans k2
  have hel2 := k12 _ _ hel'
  have hfl2 := k12 _ _ hfl'
  have hfr2 := k12 _ _ hfr'
  have hlf2 := k2 _ _ hlf
  have hHd2 := hHd.ex k12
  have hzs2 := hzs.ex k2
  have hA2 := hA.ex k12
  have hP2 := hP'.ex k12
  -- turned
  obtain ⟨LB, hL2, hin2, hR2⟩ := id hP2
  have hVl : (prV LB).length = R.length := by unfold prV; rw [List.length_map, ← hR2, List.length_map]
  refine q_raw (lcE_go (a := rl) (xs := prV LB) (ea_cons (ev_var rfl) ea_nil) (sq_of hL2) (fun G3 Dl i G' => Ex G3 G' ∧ G3 Dl = none ∧ ∃ ts, G' Dl = some (.lst ts) ∧ ts.length ≤ i ∧ Hd G' ((tR (R.take i)).map fun v => (W3.n, v)) ts) (fun G3 Dl k3 nD => ⟨Ex.new nD, nD, [], upd_same, Nat.le_refl _, rfl⟩) (fun G3 Dl i G' k3 _ h => sq_of (h.1 _ _ (k3 _ _ hL2))) (fun G3 Dl i z G' G'' k3 hi hp hy => ?_) (fun G3 Dl G' k3 hp => ?_))
  · obtain ⟨eG, nD', ts, hD, htl, hHt⟩ := hp
    obtain ⟨T, x5, x6, rfl, hTn, rfl, h5, h6⟩ := hy
    cases h5
    have h6 : (prV LB)[i]? = some x6 := h6
    unfold prV at h6
    rw [List.getElem?_map] at h6
    obtain ⟨w, hw, rfl⟩ := Option.map_eq_some_iff.mp h6
    have hrw : R[i]? = some w.2 := by rw [← hR2, List.getElem?_map, hw]; rfl
    have q2 := eG _ _ (k3 _ _ (hin2 w (List.mem_of_getElem? hw)))
    have eT : Ex G' (upd G' T (.tup [.int (i : Nat), .ref w.1])) := Ex.new hTn
    have hT2 : (upd G' T (.tup [.int (i : Nat), .ref w.1])) T = some (.tup [.int (i : Nat), .ref w.1]) := upd_same
    generalize upd G' T (.tup [.int (i : Nat), .ref w.1]) = G5 at eT hT2 ⊢
    refine ⟨T, _, rfl, st_of hT2, rfl, _, _, rfl, _, _, rfl, rfl, rfl, ?_⟩
    refine (et_test (ev_op (ev_op (ev_var rfl) ev_c (rv_ixT (st_of (eT _ _ q2)) (atI_nat (j := 0) rfl))) (ev_op (ev_var rfl) ev_c (rv_ixT (st_of (eT _ _ q2)) (atI_nat (j := 1) rfl))) rv_I0)) G5 (Ex.refl G5) _ fun G6 e6 => ?_
    have e56 := eT.trans e6
    have hil : (R.take i).length = i := by
      rw [List.length_take]
      have : i < R.length := by rw [← hVl]; exact hi
      omega
    have hts : tR (R.take (i + 1)) = match tR (R.take i) with | some v => some v | none => if w.2.2 < w.2.1 then some (.int ((i : Nat) : Int)) else none := by
      rw [take_snoc hrw, tR_snoc, hil]
      all_goals (cases tR (R.take i) <;> rfl)
    rw [hts]
    refine ite2 (fun hc => ?_) (fun hc => ?_)
    · have hc : w.2.1 > w.2.2 := of_decide_eq_true hc
      refine (el_lst (ea_cons ev_c (ea_cons (ev_var rfl) ea_nil)) (by show 2 ≤ 100000; decide)) G6 (Ex.refl G6) _ fun c G7 nc e7 hcc => ?_
      have e57 := e56.trans e7
      have hD7 := e57 _ _ hD
      have hi8 : i < 9 := by have : i < R.length := by rw [← hVl]; exact hi
                             omega
      have eU : Ex G3 (upd G7 Dl (.lst (ts ++ [.ref c]))) := fun c o hc => by
        rw [upd_ne (fun z => by rw [z, nD'] at hc; exact nomatch hc)]
        exact e57 _ _ (eG _ _ hc)
      refine ⟨ts, hD7, sz_lt (by omega), eU, nD', ts ++ [.ref c], upd_same, by rw [List.length_append]; show ts.length + 1 ≤ _; omega, ?_⟩
      have hHt7 := hHt.ex e57
      cases hT : tR (R.take i) with
      | some v =>
        rw [hT] at hHt7
        obtain ⟨t, rest, rfl, ht⟩ : ∃ t rest, ts = V.ref t :: rest ∧ G7 t = some (.lst (tV (some (W3.n, v)))) := hHt7
        exact ⟨t, rest ++ [.ref c], rfl, by rw [upd_ne (Hd.ne hD7 ht)]; exact ht⟩
      | none =>
        rw [hT] at hHt7
        have hts0 : ts = [] := hHt7
        subst hts0
        show Hd _ ((if w.2.2 < w.2.1 then some (V.int ((i : Nat) : Int)) else none).map fun v => (W3.n, v)) _
        rw [if_pos (by omega)]
        exact ⟨c, [], rfl, by rw [upd_ne (fun z => by rw [z, hD7] at hcc; cases hcc)]; exact hcc⟩
    · have hc : ¬ w.2.1 > w.2.2 := fun z => hc (decide_eq_true z)
      refine ⟨eG.trans e56, nD', ts, e56 _ _ hD, by omega, ?_⟩
      have hHt7 := hHt.ex e56
      cases hT : tR (R.take i) with
      | some v =>
        rw [hT] at hHt7
        exact hHt7
      | none =>
        rw [hT] at hHt7
        show Hd _ ((if w.2.2 < w.2.1 then some (V.int ((i : Nat) : Int)) else none).map fun v => (W3.n, v)) _
        rw [if_neg (by omega)]
        exact hHt7
  · obtain ⟨eG, nD', ts, hD, htl, hHt⟩ := hp
    rw [hVl, List.take_length] at hHt
    rw [hVl] at htl
    dsimp only [List.set]
    have k23 := k3.trans eG
    have hHd3 := hHd2.ex k23
    have hzs3 := hzs2.ex k23
    have hws3 := hws.ex k23
    obtain ⟨t1, hf1, ht1⟩ := Hd.fst hHd3 hzs3 hws3 (k23 _ _ hfr2)
    rw [← T2_fst] at ht1
    obtain ⟨t2, hf2, ht2⟩ := Hd.fst hHd3 hzs3 hHt (k23 _ _ hfr2)
    rw [← TB_fst] at ht2
    have ok1 : okT (T2 ns pl x y) := by
      rw [T2_fst]
      exact okT_fst hbv (okT_k hx2) (okT_k hy2)
    have ok2 : okT (TB ns pl x R) := by
      rw [TB_fst]
      exact okT_fst hbv (okT_k hx2) okT_n
    refine q_asg (v := .ref t1) (ev_opL1 (xs := ys ++ zs ++ ws ++ [.ref fr]) (y := .int 0) (el_catLV (el_catLV (el_catVV (ev_var rfl) (k23 _ _ hel2) (ev_var rfl) (k23 _ _ hlf2) (by omega)) (ev_var rfl) (k23 _ _ hrt) (by rw [List.length_append]; omega)) (ev_var rfl) (k23 _ _ hfl2) (by simp only [List.length_append, List.length_cons, List.length_nil]; omega)) (fun G e => ev_c) fun q G hq e => rv_ixL (sq_of hq) (atI_nat (j := 0) hf1)) fun G4 k4 => ?_
    have k24 := k23.trans k4
    refine q_asg (v := .ref t2) (ev_opL1 (xs := ys ++ zs ++ ts ++ [.ref fr]) (y := .int 0) (el_catLV (el_catLV (el_catVV (ev_var rfl) (k24 _ _ hel2) (ev_var rfl) (k24 _ _ hlf2) (by omega)) (ev_var rfl) (k4 _ _ hD) (by rw [List.length_append]; omega)) (ev_var rfl) (k24 _ _ hfl2) (by simp only [List.length_append, List.length_cons, List.length_nil]; omega)) (fun G e => ev_c) fun q G hq e => rv_ixL (sq_of hq) (atI_nat (j := 0) hf2)) fun G5 k5 => ?_
    have k25 := k24.trans k5
    have hA5 := hA2.ex k25
    have hP5 := hP2.ex k25
    have ht15 := (k4.trans k5) _ _ ht1
    have ht25 := (k4.trans k5) _ _ ht2
    dsimp only [List.set]
    obtain ⟨rs1, rs2, rs3⟩ := rowsP_sm hnr
    have sz0 := sz_ints ns
    have dp0 := depth_ints ns
    have kp : ∀ {σ : L2.St} {G : Hp}, σ[1]? = some (some (.ref p)) → σ[4]? = some (some (.ref rl)) → AtX K G p ns pl → PrsAt G rl R → Ev (tCB (rRepr K) (tCons (tLst (tCons (tVar 1) (tCons (tVar 4) tNil))) tNil)) σ G (.str (PyData.shown (.list [.tuple [.tuple (ns.map PyData.int), .str pl], .list (R.map prD)]))) := fun h2 h3 hmG hPG =>
      ev_reprL (el_lst (ea_cons (ev_var h2) (ea_cons (ev_var h3) ea_nil)) (by show 2 ≤ 100000; decide)) (fun G1 e => .cons (hmG.ex e).dp (.cons (hPG.ex e).dp .nil)) ⟨⟨sm_ints hsm, hpl, trivial⟩, rs1, trivial⟩ (by simp only [szD, szAll] at rs2 ⊢; omega) (by simp only [PyData.depth, PyData.depthAll]; omega)
    generalize hkept : PyData.shown (.list [.tuple [.tuple (ns.map PyData.int), .str pl], .list (R.map prD)]) = kept at kp
    refine par_raw (ea_at (kp rfl rfl hA5 hP5) fun G6 k6 => cons_raw (lcR_go (n := 4) (ea_cons ev_c ea_nil) (by decide) (fun D i G => Ex G6 G ∧ G6 D = none ∧ ∃ us : List Addr, G D = some (.lst (us.map V.ref)) ∧ us.length = i ∧ ∀ (j : Nat) (u : Addr), us[j]? = some u → u ≠ D ∧ G u = some (.lst (tV (toldDo (j : Nat) ns pl x y R)))) (fun D G e nD => ⟨e.trans (Ex.new nD), fresh_back e nD, [], upd_same, rfl, fun j u h => nomatch h⟩) (fun D i G hi hp => ?_) (fun D G hp => nil_raw ⟨_, _, rfl, ?_⟩)))
    · obtain ⟨eG, nD, us, hD, hul, hus⟩ := hp
      have hi4 : i < 4 := by omega
      refine ⟨rfl, yes_raw (iteT (call_raw (cons_raw (var_raw rfl (cons_raw (var_raw rfl (cons_raw (var_raw rfl (cons_raw (var_raw rfl (cons_raw (var_raw rfl (nil_raw ⟨(i : Nat), p, ns, pl, x, y, rl, R, rfl, by omega, by omega, hA5.ex (k6.trans eG), hP5.ex (k6.trans eG), h8, hnr, hszs, fun q G7 nq e7 hq => ?_⟩)))))))))))))⟩
      have hD7 := e7 _ _ hD
      have nqD : q ≠ D := fun z => by rw [z, hD] at nq; exact nomatch nq
      refine ⟨us.map V.ref, hD7, by rw [List.length_map]; exact sz_lt (by omega), fun c o hc => ?_, nD, us ++ [q], ?_, ?_, fun j u hj => ?_⟩
      · rw [upd_ne (fun z => by rw [z, nD] at hc; exact nomatch hc)]
        exact e7 _ _ (eG _ _ hc)
      · rw [List.map_append]
        exact upd_same
      · rw [List.length_append, hul]
        rfl
      · rcases Nat.lt_or_ge j us.length with hx | hx
        · rw [List.getElem?_append_left hx] at hj
          obtain ⟨a1, a2⟩ := hus j u hj
          exact ⟨a1, by rw [upd_ne a1]; exact e7 _ _ a2⟩
        · rw [List.getElem?_append_right hx] at hj
          have hx0 : j - us.length = 0 := by
            rcases Nat.eq_zero_or_pos (j - us.length) with z | z
            · exact z
            · rw [List.getElem?_eq_none (by simp only [List.length_singleton]; omega)] at hj
              exact nomatch hj
          rw [hx0] at hj
          cases hj
          have : j = i := by omega
          rw [this]
          exact ⟨nqD, by rw [upd_ne nqD]; exact hq⟩
    · obtain ⟨eG, nD, us, hD, hul, hus⟩ := hp
      obtain ⟨u0, u1, u2, u3, rfl⟩ : ∃ u0 u1 u2 u3, us = [u0, u1, u2, u3] := by
        match us, hul with
        | [a, b, c, d], _ => exact ⟨a, b, c, d, rfl⟩
      have a0 := (hus 0 u0 rfl).2
      have a1 := (hus 1 u1 rfl).2
      have a2 := (hus 2 u2 rfl).2
      have a3 := (hus 3 u3 rfl).2
      have x0 : ∀ j : Nat, j < 3 → toldDo (j : Nat) ns pl x y R = T2 ns pl x y := fun j h => by unfold toldDo; rw [if_neg (by omega)]
      have x3 : toldDo ((3 : Nat) : Int) ns pl x y R = TB ns pl x R := by unfold toldDo; rw [if_pos (by decide)]
      rw [x0 0 (by decide)] at a0
      rw [x0 1 (by decide)] at a1
      rw [x0 2 (by decide)] at a2
      rw [x3] at a3
      obtain ⟨s1, s2⟩ := told_data ok1 ok2
      have hD : G D = some (.lst [.ref u0, .ref u1, .ref u2, .ref u3]) := hD
      have ht16 := (k6.trans eG) _ _ ht15
      have ht26 := (k6.trans eG) _ _ ht25
      refine s_ret (ev_is (ev_andV (a := true) (b := true) (ev_opL (xs := [.ref t1, .ref t1, .ref t1] ++ [.ref t2]) (ev_var rfl) (el_cat (el_rep (x := .ref t1) (k := 3) (el_lst (ea_cons (ev_var rfl) ea_nil) (by show 1 ≤ 100000; decide)) ev_c (by decide)) (el_lst (ea_cons (ev_var rfl) ea_nil) (by show 1 ≤ 100000; decide)) (by show 3 + 1 ≤ 100000; decide)) fun q G7 hq e7 => fun G8 e8 Q8 q8 => ?_) fun _ => ev_is (ev_op (kp rfl rfl (hA5.ex (k6.trans eG)) (hP5.ex (k6.trans eG))) (ev_var rfl) (rv_eq rfl)) (by rw [decide_eq_true rfl])) rfl) fun G9 e9 => hQ G9 (bH.trans (Bu.of (k12.trans (k25.trans (k6.trans (eG.trans e9)))))) ((g'.ex (k12.trans (k25.trans (k6.trans (eG.trans e9))))).le (by omega))
      have e78 := e7.trans e8
      refine ⟨.list [tD (T2 ns pl x y), tD (T2 ns pl x y), tD (T2 ns pl x y), tD (TB ns pl x R)], .list [tD (T2 ns pl x y), tD (T2 ns pl x y), tD (T2 ns pl x y), tD (TB ns pl x R)], .lst (sq_of (e78 _ _ hD)) (.cons (tV_dp ok1 (e78 _ _ a0)) (.cons (tV_dp ok1 (e78 _ _ a1)) (.cons (tV_dp ok1 (e78 _ _ a2)) (.cons (tV_dp ok2 (e78 _ _ a3)) .nil)))), .lst (sq_of (e8 _ _ hq)) (.cons (tV_dp ok1 (e78 _ _ ht16)) (.cons (tV_dp ok1 (e78 _ _ ht16)) (.cons (tV_dp ok1 (e78 _ _ ht16)) (.cons (tV_dp ok2 (e78 _ _ ht26)) .nil)))), s1, s1, ?_⟩
      rw [s2]
      exact q8 G8 (Ex.refl G8)

theorem sc_law : FnScope ["script", "at", "pool", "turn", "book", "told"] ["script"] (defScope s_law) := ⟨rfl, rfl, rfl, by decide +kernel, rfl, by decide +kernel, by decide +kernel⟩
theorem ok_law (D : Df K mg "law" s_law ["script"] f fd) (cp : Cl P w K mg base 1 "_law_pool" ["script", "at"] (spPool K)) (cr : Cl P w K mg base 8 "_law_right" ["pool"] spR49) (ct : Cl P w K mg base 7 "_law_told" ["door", "book", "one", "two", "rows"] (spTold49 K))
    (cra : mg "range" = none) (cmi : mg "min" = none) (cma : mg "max" = none) (cle : mg "len" = none) : FnG P w K mg base CX0 9 f fd ["script"] (spLaw K) := by
  refine df_ok D sc_law (fun vs H Q E h => by obtain ⟨a, ns, rfl, _⟩ := h; rfl) (fun cdv A outer s H vs Q E hG hr h => ?_)
  obtain ⟨a, ns, rfl, hS, hlen, hQ⟩ := h
  have nd := sc_law.nd
  have hu : A.units + 3 + 64 < cLine := hr.units
  refine ⟨_, (pss_cons (ps_for PassesOwn.never rfl (pi_range1 (by rfl) cra (pa_cons (pe_callB (call_max2 rfl) (by rfl) cma (by decide +kernel) (pa_cons pe_int (pa_cons (pe_callB (call_min2 rfl) (by rfl) cmi (by decide +kernel) (pa_cons pe_int (pa_cons (pe_callB call_len_seq (by rfl) cle PySem.boot_len (pa_cons (pv 0) pa_nil)) pa_nil))) pa_nil))) pa_nil)) (pg_name (i := 1) nd rfl (.inl rfl)) (pss_cons (ps_set (i := 2) nd rfl (.inl rfl) (pe_cl cp hG hr rfl (pa_cons (pv 0) (pa_cons (pv 1) pa_nil)))) (pss_one (ps_for PassesOwn.never rfl (pi_range1 (by rfl) cra (pa_cons pe_int pa_nil)) (pg_name (i := 3) nd rfl (.inl rfl)) (pss_one (ps_if (pt_not (pt_val (pe_cl cr hG hr rfl (pa_cons (pv 2) pa_nil)))) (pss_one (ps_ret pe_bl)) pss_nil)))))) (pss_cons (ps_set (i := 4) nd rfl (.inl rfl) (pe_tup (pa_cons (pe_tup (pa_cons pe_int (pa_cons pe_int (pa_cons pe_int (pa_cons pe_int (pa_cons pe_int pa_nil)))))) (pa_cons pe_str pa_nil)))) (pss_cons (ps_set (i := 5) nd rfl (.inl rfl) (pe_lst (pa_cons (pe_cl ct hG hr rfl (pa_cons pe_int (pa_cons (pv 4) (pa_cons pe_str (pa_cons pe_str (pa_cons (pe_lst pa_nil) pa_nil)))))) (pa_cons (pe_cl ct hG hr rfl (pa_cons pe_int (pa_cons (pv 4) (pa_cons pe_str (pa_cons pe_str (pa_cons (pe_lst (pa_cons (pe_tup (pa_cons pe_int (pa_cons pe_int pa_nil))) (pa_cons (pe_tup (pa_cons pe_int (pa_cons pe_int pa_nil))) pa_nil))) pa_nil)))))) pa_nil)))) (pss_one (ps_ret (pe_cmpR (op_eqD hu) (pv 5) (pe_lst (pa_cons (pe_lst (pa_cons pe_str (pa_cons pe_str pa_nil))) (pa_cons (pe_lst (pa_cons pe_str (pa_cons pe_int pa_nil))) pa_nil))) (nomark _))))))), ?_⟩
  have hlen2 : (ns.map V.int).length = ns.length := List.length_map ..
  refine q_forR1 (n := (if (if (ns.length : Int) < 8 then (ns.length : Int) else 8) > 1 then (if (ns.length : Int) < 8 then (ns.length : Int) else 8) else 1)) (ea_cons (ev_cb (ea_cons ev_c (ea_cons (ev_cb (vs := [.int 8, .int ((ns.map V.int).length : Nat)]) (ea_cons ev_c (ea_cons (ev_cb (ea_cons (ev_var rfl) ea_nil) fun H2 e2 Q1 q1 => ⟨a, _, rfl, .inl (ex_l e2 hS), q1 H2 (Ex.refl H2)⟩) ea_nil))
      fun H2 e2 Q1 q1 => ⟨_, _, rfl, by rw [hlen2]; exact q1 H2 (Ex.refl H2)⟩) ea_nil)) fun H2 e2 Q1 q1 => ⟨_, _, rfl, q1 H2 (Ex.refl H2)⟩) ea_nil) (by split <;> (try split) <;> omega)
    (fun i σ G => Ex H G ∧ ∃ (y1 y2 y3 : Option V), σ = [some (.ref a), y1, y2, y3, none, none]) ?_ ?_ ?_
  · exact fun G e => ⟨e, none, none, none, rfl⟩
  · intro i σ G hi hp
    obtain ⟨eg, y1, y2, y3, rfl⟩ := hp
    have hi6 : i ≤ 8 := by
      split at hi <;> (try split at hi) <;> omega
    refine q_raw (ea_at (ev_var rfl) fun H2 e2 => cons_raw ⟨_, rfl, nil_raw ?_⟩)
    refine ⟨a, ns, i, rfl, ex_l (eg.trans e2) hS, hlen, by omega, fun r H3 n3 e3 g3 => ?_⟩
    dsimp only [List.set]
    have e03 := (eg.trans e2).trans e3
    refine s_forR1 (n := 8) (ea_cons ev_c ea_nil) (by decide) (fun j σ G4 => Bu r H3 G4 ∧ Rng G4 r (60 * j) ∧ ∃ y3, σ = [some (.ref a), some (.int (i : Nat)), some (.ref r), y3, none, none]) ?_ ?_ ?_
    · exact fun G4 e4 => ⟨Bu.of e4, g3.ex e4, y3, rfl⟩
    · intro j σ G4 hj hp4
      obtain ⟨b4, g4, z3, rfl⟩ := hp4
      dsimp only [List.set]
      refine if_raw (not_raw (B_raw (call_raw (cons_raw (var_raw rfl (nil_raw ⟨r, 60 * j, rfl, by omega, g4, fun G6 b6 g6 => ⟨true, rfl, iteF ?_⟩⟩))))))
      exact ⟨b4.trans b6, g6.le (by omega), _, rfl⟩
    · intro σ G4 hp4
      obtain ⟨b4, g4, z3, rfl⟩ := hp4
      refine ⟨fun c o hc => b4 c o (fun z => ?_) (e03 c o hc), _, _, _, rfl⟩
      rw [z] at hc
      rw [(eg.trans e2) _ _ hc] at n3
      exact nomatch n3
  · intro σ G hp
    obtain ⟨eg, y1, y2, y3, rfl⟩ := hp
    have hW : EvU (tTup (tCons (tC (.int 8)) (tCons (tC (.int 16)) (tCons (tC (.int 32)) (tCons (tC (.int 64)) (tCons (tC (.int 64)) tNil)))))) [some (.ref a), y1, y2, y3, none, none] G [.int 8, .int 16, .int 32, .int 64, .int 64] :=
      eu_tup (ea_cons ev_c (ea_cons ev_c (ea_cons ev_c (ea_cons ev_c (ea_cons ev_c ea_nil))))) (by decide)
    refine q_raw (tup_raw (ea_atU hW fun q H3 n3 e3 h3 => ea_at ev_c fun H4 e4 => ⟨by show 2 ≤ sizeLine; decide, fun p n5 => ?_⟩))
    have hm : AtX K (upd H4 p (.tup [.ref q, .str "s"])) p (Md.ns ⟨8, 16, 32, 64, 64, false⟩) (plS false) := ⟨q, st_of upd_same, st_of (Ex.new n5 _ _ (e4 _ _ h3))⟩
    have ho : Md.Ok ⟨8, 16, 32, 64, 64, false⟩ := ⟨by decide, by decide, by decide, by decide, by decide, by decide⟩
    have htm := tm_good ho
    generalize upd H4 p (.tup [.ref q, .str "s"]) = H5 at hm ⊢
    dsimp only [List.set]
    have k1 : kdOk "int" = true := by decide +kernel
    have k2 : kdOk "INT" = false := by decide +kernel
    have c1 : toldDo 0 (Md.ns ⟨8, 16, 32, 64, 64, false⟩) (plS false) "int" "INT" [] = some (.k, .str "INT") := by
      unfold toldDo
      rw [if_neg (by decide)]
      unfold T2
      rw [show tm (Md.ns ⟨8, 16, 32, 64, 64, false⟩) (plS false) = none from htm]
      unfold tkd
      rw [k1, k2]
      rfl
    have c2 : toldDo 3 (Md.ns ⟨8, 16, 32, 64, 64, false⟩) (plS false) "int" "" [(0, 1), (2, 1)] = some (.n, .int 1) := by
      unfold toldDo
      rw [if_pos rfl]
      unfold TB
      rw [show tm (Md.ns ⟨8, 16, 32, 64, 64, false⟩) (plS false) = none from htm]
      unfold tkd
      rw [k1]
      rfl
    refine q_raw (lst_raw (cons_raw (call_raw (cons_raw (c_raw (cons_raw (var_raw rfl (cons_raw (c_raw (cons_raw (c_raw (cons_raw (lst_raw (nil_raw ⟨by show 0 ≤ sizeLine; decide, fun l1 nl1 => nil_raw ?_⟩))))))))))))))
    have f1 : Ex H5 (upd H5 l1 (.lst [])) := Ex.new nl1
    have P1 : PrsAt (upd H5 l1 (.lst [])) l1 [] := ⟨[], upd_same, (fun x hx => nomatch hx), rfl⟩
    generalize upd H5 l1 (.lst []) = G1 at f1 P1 ⊢
    refine ⟨0, p, _, _, "int", "INT", l1, [], rfl, by decide, by decide, hm.ex f1, P1, Nat.zero_le _, (fun x hx => nomatch hx), (fun x hx => nomatch hx), fun q1 G2 nq1 f2 hq1 => ?_⟩
    rw [c1] at hq1
    refine cons_raw (call_raw (cons_raw (c_raw (cons_raw (var_raw rfl (cons_raw (c_raw (cons_raw (c_raw (cons_raw (lst_raw (cons_raw ?_))))))))))))
    refine (eu_tup (ea_cons (ev_c (v := .int 0)) (ea_cons (ev_c (v := .int 1)) ea_nil)) (by show 2 ≤ 100000; decide)) G2 (Ex.refl G2) _ fun t1 G3 nt1 f3 k1' => ?_
    refine cons_raw ?_
    refine (eu_tup (ea_cons (ev_c (v := .int 2)) (ea_cons (ev_c (v := .int 1)) ea_nil)) (by show 2 ≤ 100000; decide)) G3 (Ex.refl G3) _ fun t2 G4 nt2 f4 k2' => ?_
    refine nil_raw ⟨by show 2 ≤ sizeLine; decide, fun l2 nl2 => nil_raw ?_⟩
    have f5 : Ex G4 (upd G4 l2 (.lst [.ref t1, .ref t2])) := Ex.new nl2
    have P2 : PrsAt (upd G4 l2 (.lst [.ref t1, .ref t2])) l2 [(0, 1), (2, 1)] := ⟨[(t1, (0, 1)), (t2, (2, 1))], upd_same, fun x hx => by
      rcases List.mem_cons.mp hx with rfl | hx
      · exact f5 _ _ (f4 _ _ k1')
      · rw [List.mem_singleton.mp hx]
        exact f5 _ _ k2', rfl⟩
    have f25 := f3.trans (f4.trans f5)
    generalize upd G4 l2 (.lst [.ref t1, .ref t2]) = G5 at f25 P2 ⊢
    have near : nearP [(0, 1), (2, 1)] ∧ sizesP [(0, 1), (2, 1)] := ⟨fun x hx => by
      simp only [List.mem_cons, List.not_mem_nil, or_false] at hx
      rcases hx with rfl | rfl <;> exact ⟨by decide, by decide⟩, fun x hx => by
      simp only [List.mem_cons, List.not_mem_nil, or_false] at hx
      rcases hx with rfl | rfl <;> decide⟩
    refine ⟨3, p, _, _, "int", "", l2, [(0, 1), (2, 1)], rfl, by decide, by decide, hm.ex (f1.trans (f2.trans f25)), P2, by decide, near.1, near.2, fun q2 G6 nq2 f6 hq2 => ?_⟩
    rw [c2] at hq2
    refine nil_raw ⟨by show 2 ≤ sizeLine; decide, fun tl ntl => ?_⟩
    have f7 : Ex G6 (upd G6 tl (.lst [.ref q1, .ref q2])) := Ex.new ntl
    have htl : (upd G6 tl (.lst [.ref q1, .ref q2])) tl = some (.lst [.ref q1, .ref q2]) := upd_same
    have hq17 := f7 _ _ (f6 _ _ (f25 _ _ hq1))
    have hq27 := f7 _ _ hq2
    generalize upd G6 tl (.lst [.ref q1, .ref q2]) = G7 at htl hq17 hq27 ⊢
    refine retx (op_raw (var_raw rfl (lst_raw (ea_atL (el_lst (ea_cons (ev_c (v := .str "kind")) (ea_cons (ev_c (v := .str "INT")) ea_nil)) (by show 2 ≤ 100000; decide)) fun w1 G8 nw1 f8 hw1 => ea_atL (el_lst (ea_cons (ev_c (v := .str "number")) (ea_cons (ev_c (v := .int 1)) ea_nil)) (by show 2 ≤ 100000; decide)) fun w2 G9 nw2 f9 hw2 => ⟨by show 2 ≤ sizeLine; decide, fun w nw => ?_⟩))))
    have f10 : Ex G9 (upd G9 w (.lst [.ref w1, .ref w2])) := Ex.new nw
    have hw : (upd G9 w (.lst [.ref w1, .ref w2])) w = some (.lst [.ref w1, .ref w2]) := upd_same
    have f710 := f8.trans (f9.trans f10)
    have hw1' := f10 _ _ (f9 _ _ hw1)
    have hw2' := f10 _ _ hw2
    generalize upd G9 w (.lst [.ref w1, .ref w2]) = G10 at f710 hw hw1' hw2' ⊢
    refine ⟨.list [.list [.str "kind", .str "INT"], .list [.str "number", .int 1]], .list [.list [.str "kind", .str "INT"], .list [.str "number", .int 1]], .lst (sq_of (f710 _ _ htl)) (.cons (.lst (sq_of (f710 _ _ hq17)) (.cons (.str _) (.cons (.str _) .nil))) (.cons (.lst (sq_of (f710 _ _ hq27)) (.cons (.str _) (.cons (.int _) .nil))) .nil)), .lst (sq_of hw) (.cons (.lst (sq_of hw1') (.cons (.str _) (.cons (.str _) .nil))) (.cons (.lst (sq_of hw2') (.cons (.str _) (.cons (.int _) .nil))) .nil)), by decide +kernel, by decide +kernel, ?_⟩
    have he : PyData.eqv (.list [.list [.str "kind", .str "INT"], .list [.str "number", .int 1]]) (.list [.list [.str "kind", .str "INT"], .list [.str "number", .int 1]]) = true := by decide +kernel
    rw [he]
    exact hQ G10

end
theorem df_mk {K : PySem.W.Frag} {h : Heap} {mg : Str → Option Value} {x : Str} {st : Stmt} {ps : List Str} {f : Addr} {oc : Value} {od an : Option Addr} {sl : Array (Option Value)} {kV dc pm cd ct : Value} (X : K.In h) (G : h.Ns mainGlobals mg)
    (a : PySem.W.nsIn K mainGlobals x = some (some (.ref f))) (l : K.lookup f = some ⟨oc, od, .func (PySem.W.fnOf x x (defArgs st) (defBody st) (defScope st) .none kV dc pm an cd ct), sl⟩) (c : PySem.W.codeIn K cd x = true) (k : PySem.W.keepIn K (.ref f) = true)
    (hb : ∀ (kV doc pm : Value) (an : Option Addr) (cdv ct : Value) (us : List Value), us.length = ps.length → bindArgs (PySem.W.fnOf x x (defArgs st) (defBody st) (defScope st) .none kV doc pm an cdv ct) ⟨us, []⟩ = pure (ps.zip us)) :
    Df K mg x st ps f (PySem.W.fnOf x x (defArgs st) (defBody st) (defScope st) .none kV dc pm an cd ct) :=
  ⟨fun_mk l c k, PySem.W.mg_of X G a, (fun_mk l c k).binds hb⟩
theorem ct_mk {K : PySem.W.Frag} {h : Heap} {mg : Str → Option Value} {x : Str} {xs : List V} {q : Addr} {od : Option Addr} {its : Array Value} {m : Nat} {sl : Array (Option Value)} (X : K.In h) (G : h.Ns mainGlobals mg)
    (a : PySem.W.nsIn K mainGlobals x = some (some (.ref q))) (l : K.lookup q = some ⟨.type "tuple", od, .seq its m, sl⟩) (v : Vals xs its.toList) (z : xs.length ≤ 1000) : CT K mg x xs :=
  ⟨q, PySem.W.mg_of X G a, fun H => .inr ⟨_, its, m, l, rfl, rfl, by
    have e := v.length
    have s := sizeLine_eq
    have e2 : its.toList.length = its.size := Array.length_toList
    omega, v⟩⟩
theorem ci_mk {K : PySem.W.Frag} {h : Heap} {mg : Str → Option Value} {x : Str} {i : Int} {t : Tok} (X : K.In h) (G : h.Ns mainGlobals mg) (a : PySem.W.nsIn K mainGlobals x = some (some (.int i t))) : CI mg x i := ⟨t, PySem.W.mg_of X G a⟩
theorem all_mk {Pr : Program} {w : World} {K : PySem.W.Frag} {h : Heap} {mg : Str → Option Value} {fa : Addr} (X : K.In h) (G : h.Ns mainGlobals mg) (hfa : mg "law" = some (.ref fa))
    {f0 : Addr} {oc0 kV0 dc0 pm0 cd0 ct0 : Value} {od0 an0 : Option Addr} {sl0 : Array (Option Value)}
    {f1 : Addr} {oc1 kV1 dc1 pm1 cd1 ct1 : Value} {od1 an1 : Option Addr} {sl1 : Array (Option Value)}
    {f2 : Addr} {oc2 kV2 dc2 pm2 cd2 ct2 : Value} {od2 an2 : Option Addr} {sl2 : Array (Option Value)}
    {f3 : Addr} {oc3 kV3 dc3 pm3 cd3 ct3 : Value} {od3 an3 : Option Addr} {sl3 : Array (Option Value)}
    {f4 : Addr} {oc4 kV4 dc4 pm4 cd4 ct4 : Value} {od4 an4 : Option Addr} {sl4 : Array (Option Value)}
    {f5 : Addr} {oc5 kV5 dc5 pm5 cd5 ct5 : Value} {od5 an5 : Option Addr} {sl5 : Array (Option Value)}
    {f6 : Addr} {oc6 kV6 dc6 pm6 cd6 ct6 : Value} {od6 an6 : Option Addr} {sl6 : Array (Option Value)}
    {f7 : Addr} {oc7 kV7 dc7 pm7 cd7 ct7 : Value} {od7 an7 : Option Addr} {sl7 : Array (Option Value)}
    {f8 : Addr} {oc8 kV8 dc8 pm8 cd8 ct8 : Value} {od8 an8 : Option Addr} {sl8 : Array (Option Value)}
    {f9 : Addr} {oc9 kV9 dc9 pm9 cd9 ct9 : Value} {od9 an9 : Option Addr} {sl9 : Array (Option Value)}
    {f10 : Addr} {oc10 kV10 dc10 pm10 cd10 ct10 : Value} {od10 an10 : Option Addr} {sl10 : Array (Option Value)}
    {f11 : Addr} {oc11 kV11 dc11 pm11 cd11 ct11 : Value} {od11 an11 : Option Addr} {sl11 : Array (Option Value)}
    {f12 : Addr} {oc12 kV12 dc12 pm12 cd12 ct12 : Value} {od12 an12 : Option Addr} {sl12 : Array (Option Value)}
    {f13 : Addr} {oc13 kV13 dc13 pm13 cd13 ct13 : Value} {od13 an13 : Option Addr} {sl13 : Array (Option Value)}
    {f14 : Addr} {oc14 kV14 dc14 pm14 cd14 ct14 : Value} {od14 an14 : Option Addr} {sl14 : Array (Option Value)}
    {f15 : Addr} {oc15 kV15 dc15 pm15 cd15 ct15 : Value} {od15 an15 : Option Addr} {sl15 : Array (Option Value)}
    {f16 : Addr} {oc16 kV16 dc16 pm16 cd16 ct16 : Value} {od16 an16 : Option Addr} {sl16 : Array (Option Value)}
    {f17 : Addr} {oc17 kV17 dc17 pm17 cd17 ct17 : Value} {od17 an17 : Option Addr} {sl17 : Array (Option Value)}
    {f18 : Addr} {oc18 kV18 dc18 pm18 cd18 ct18 : Value} {od18 an18 : Option Addr} {sl18 : Array (Option Value)}
    {f19 : Addr} {oc19 kV19 dc19 pm19 cd19 ct19 : Value} {od19 an19 : Option Addr} {sl19 : Array (Option Value)}
    {f20 : Addr} {oc20 kV20 dc20 pm20 cd20 ct20 : Value} {od20 an20 : Option Addr} {sl20 : Array (Option Value)}
    {f21 : Addr} {oc21 kV21 dc21 pm21 cd21 ct21 : Value} {od21 an21 : Option Addr} {sl21 : Array (Option Value)}
    {f22 : Addr} {oc22 kV22 dc22 pm22 cd22 ct22 : Value} {od22 an22 : Option Addr} {sl22 : Array (Option Value)}
    {f23 : Addr} {oc23 kV23 dc23 pm23 cd23 ct23 : Value} {od23 an23 : Option Addr} {sl23 : Array (Option Value)}
    {f24 : Addr} {oc24 kV24 dc24 pm24 cd24 ct24 : Value} {od24 an24 : Option Addr} {sl24 : Array (Option Value)}
    {q0 : Addr} {qd0 : Option Addr} {its0 : Array Value} {qm0 : Nat} {qs0 : Array (Option Value)}
    {q1 : Addr} {qd1 : Option Addr} {its1 : Array Value} {qm1 : Nat} {qs1 : Array (Option Value)}
    {q2 : Addr} {qd2 : Option Addr} {its2 : Array Value} {qm2 : Nat} {qs2 : Array (Option Value)}
    {qR : Addr} {esR : Array DictEntry} {nR : Nat}
    {tR0 : Tok}
    {tR1 : Tok}
    {tR2 : Tok}
    {tR3 : Tok}
    {tR4 : Tok}
    {tR5 : Tok}
    {tR6 : Tok}
    {tR7 : Tok}
    {tR8 : Tok}
    {tR9 : Tok}
    {tR10 : Tok}
    {tI4 : Tok}
    {q5 : Addr} {qd5 : Option Addr} {its5 : Array Value} {qm5 : Nat} {qs5 : Array (Option Value)}
    {tI6 : Tok}
    {tI7 : Tok}
    {xc0 xc1 xc2 xc3 xc4 xc5 xc6 xc7 xc8 xcE : Addr}
    {xn0 xq0 : Str} {xN0 xf0 : Addr} {xbs0 xbm0 xsub0 : List Value} {xsn0 : List Str} {xab0 : Bool} {xcol0 : Option Bool} {xdd0 : Option Addr} {xm00 xm10 xm20 xm30 xm50 : Option Value} {ioc0 ikV0 idc0 ipm0 icd0 ict0 : Value} {iod0 ian0 : Option Addr} {isl0 : Array (Option Value)}
    {xn1 xq1 : Str} {xN1 xf1 : Addr} {xbs1 xbm1 xsub1 : List Value} {xsn1 : List Str} {xab1 : Bool} {xcol1 : Option Bool} {xdd1 : Option Addr} {xm01 xm11 xm21 xm31 xm51 : Option Value} {ioc1 ikV1 idc1 ipm1 icd1 ict1 : Value} {iod1 ian1 : Option Addr} {isl1 : Array (Option Value)}
    {xn5 xq5 : Str} {xN5 xf5 : Addr} {xbs5 xbm5 xsub5 : List Value} {xsn5 : List Str} {xab5 : Bool} {xcol5 : Option Bool} {xdd5 : Option Addr} {xm05 xm15 xm25 xm35 xm55 : Option Value} {ioc5 ikV5 idc5 ipm5 icd5 ict5 : Value} {iod5 ian5 : Option Addr} {isl5 : Array (Option Value)}
    (a0 : PySem.W.nsIn K mainGlobals "check_widths" = some (some (.ref f0)))
    (l0 : K.lookup f0 = some ⟨oc0, od0, .func (PySem.W.fnOf "check_widths" "check_widths" (defArgs s_check_widths) (defBody s_check_widths) (defScope s_check_widths) .none kV0 dc0 pm0 an0 cd0 ct0), sl0⟩)
    (c0 : PySem.W.codeIn K cd0 "check_widths" = true)
    (k0 : PySem.W.keepIn K (.ref f0) = true)
    (a1 : PySem.W.nsIn K mainGlobals "check_model" = some (some (.ref f1)))
    (l1 : K.lookup f1 = some ⟨oc1, od1, .func (PySem.W.fnOf "check_model" "check_model" (defArgs s_check_model) (defBody s_check_model) (defScope s_check_model) .none kV1 dc1 pm1 an1 cd1 ct1), sl1⟩)
    (c1 : PySem.W.codeIn K cd1 "check_model" = true)
    (k1 : PySem.W.keepIn K (.ref f1) = true)
    (a2 : PySem.W.nsIn K mainGlobals "check_kind" = some (some (.ref f2)))
    (l2 : K.lookup f2 = some ⟨oc2, od2, .func (PySem.W.fnOf "check_kind" "check_kind" (defArgs s_check_kind) (defBody s_check_kind) (defScope s_check_kind) .none kV2 dc2 pm2 an2 cd2 ct2), sl2⟩)
    (c2 : PySem.W.codeIn K cd2 "check_kind" = true)
    (k2 : PySem.W.keepIn K (.ref f2) = true)
    (a3 : PySem.W.nsIn K mainGlobals "bits_of" = some (some (.ref f3)))
    (l3 : K.lookup f3 = some ⟨oc3, od3, .func (PySem.W.fnOf "bits_of" "bits_of" (defArgs s_bits_of) (defBody s_bits_of) (defScope s_bits_of) .none kV3 dc3 pm3 an3 cd3 ct3), sl3⟩)
    (c3 : PySem.W.codeIn K cd3 "bits_of" = true)
    (k3 : PySem.W.keepIn K (.ref f3) = true)
    (a4 : PySem.W.nsIn K mainGlobals "is_unsigned" = some (some (.ref f4)))
    (l4 : K.lookup f4 = some ⟨oc4, od4, .func (PySem.W.fnOf "is_unsigned" "is_unsigned" (defArgs s_is_unsigned) (defBody s_is_unsigned) (defScope s_is_unsigned) .none kV4 dc4 pm4 an4 cd4 ct4), sl4⟩)
    (c4 : PySem.W.codeIn K cd4 "is_unsigned" = true)
    (k4 : PySem.W.keepIn K (.ref f4) = true)
    (a5 : PySem.W.nsIn K mainGlobals "limits_of" = some (some (.ref f5)))
    (l5 : K.lookup f5 = some ⟨oc5, od5, .func (PySem.W.fnOf "limits_of" "limits_of" (defArgs s_limits_of) (defBody s_limits_of) (defScope s_limits_of) .none kV5 dc5 pm5 an5 cd5 ct5), sl5⟩)
    (c5 : PySem.W.codeIn K cd5 "limits_of" = true)
    (k5 : PySem.W.keepIn K (.ref f5) = true)
    (a6 : PySem.W.nsIn K mainGlobals "promoted_kind" = some (some (.ref f6)))
    (l6 : K.lookup f6 = some ⟨oc6, od6, .func (PySem.W.fnOf "promoted_kind" "promoted_kind" (defArgs s_promoted_kind) (defBody s_promoted_kind) (defScope s_promoted_kind) .none kV6 dc6 pm6 an6 cd6 ct6), sl6⟩)
    (c6 : PySem.W.codeIn K cd6 "promoted_kind" = true)
    (k6 : PySem.W.keepIn K (.ref f6) = true)
    (a7 : PySem.W.nsIn K mainGlobals "_common_of_mixed" = some (some (.ref f7)))
    (l7 : K.lookup f7 = some ⟨oc7, od7, .func (PySem.W.fnOf "_common_of_mixed" "_common_of_mixed" (defArgs s__common_of_mixed) (defBody s__common_of_mixed) (defScope s__common_of_mixed) .none kV7 dc7 pm7 an7 cd7 ct7), sl7⟩)
    (c7 : PySem.W.codeIn K cd7 "_common_of_mixed" = true)
    (k7 : PySem.W.keepIn K (.ref f7) = true)
    (a8 : PySem.W.nsIn K mainGlobals "common_kind" = some (some (.ref f8)))
    (l8 : K.lookup f8 = some ⟨oc8, od8, .func (PySem.W.fnOf "common_kind" "common_kind" (defArgs s_common_kind) (defBody s_common_kind) (defScope s_common_kind) .none kV8 dc8 pm8 an8 cd8 ct8), sl8⟩)
    (c8 : PySem.W.codeIn K cd8 "common_kind" = true)
    (k8 : PySem.W.keepIn K (.ref f8) = true)
    (a9 : PySem.W.nsIn K mainGlobals "_checked_signed_one" = some (some (.ref f9)))
    (l9 : K.lookup f9 = some ⟨oc9, od9, .func (PySem.W.fnOf "_checked_signed_one" "_checked_signed_one" (defArgs s__checked_signed_one) (defBody s__checked_signed_one) (defScope s__checked_signed_one) .none kV9 dc9 pm9 an9 cd9 ct9), sl9⟩)
    (c9 : PySem.W.codeIn K cd9 "_checked_signed_one" = true)
    (k9 : PySem.W.keepIn K (.ref f9) = true)
    (a10 : PySem.W.nsIn K mainGlobals "count_wrong" = some (some (.ref f10)))
    (l10 : K.lookup f10 = some ⟨oc10, od10, .func (PySem.W.fnOf "count_wrong" "count_wrong" (defArgs s_count_wrong) (defBody s_count_wrong) (defScope s_count_wrong) .none kV10 dc10 pm10 an10 cd10 ct10), sl10⟩)
    (c10 : PySem.W.codeIn K cd10 "count_wrong" = true)
    (k10 : PySem.W.keepIn K (.ref f10) = true)
    (a11 : PySem.W.nsIn K mainGlobals "first_wrong" = some (some (.ref f11)))
    (l11 : K.lookup f11 = some ⟨oc11, od11, .func (PySem.W.fnOf "first_wrong" "first_wrong" (defArgs s_first_wrong) (defBody s_first_wrong) (defScope s_first_wrong) .none kV11 dc11 pm11 an11 cd11 ct11), sl11⟩)
    (c11 : PySem.W.codeIn K cd11 "first_wrong" = true)
    (k11 : PySem.W.keepIn K (.ref f11) = true)
    (a12 : PySem.W.nsIn K mainGlobals "check_ranges" = some (some (.ref f12)))
    (l12 : K.lookup f12 = some ⟨oc12, od12, .func (PySem.W.fnOf "check_ranges" "check_ranges" (defArgs s_check_ranges) (defBody s_check_ranges) (defScope s_check_ranges) .none kV12 dc12 pm12 an12 cd12 ct12), sl12⟩)
    (c12 : PySem.W.codeIn K cd12 "check_ranges" = true)
    (k12 : PySem.W.keepIn K (.ref f12) = true)
    (a13 : PySem.W.nsIn K mainGlobals "_ways_up_to" = some (some (.ref f13)))
    (l13 : K.lookup f13 = some ⟨oc13, od13, .func (PySem.W.fnOf "_ways_up_to" "_ways_up_to" (defArgs s__ways_up_to) (defBody s__ways_up_to) (defScope s__ways_up_to) .none kV13 dc13 pm13 an13 cd13 ct13), sl13⟩)
    (c13 : PySem.W.codeIn K cd13 "_ways_up_to" = true)
    (k13 : PySem.W.keepIn K (.ref f13) = true)
    (a14 : PySem.W.nsIn K mainGlobals "count_beyond" = some (some (.ref f14)))
    (l14 : K.lookup f14 = some ⟨oc14, od14, .func (PySem.W.fnOf "count_beyond" "count_beyond" (defArgs s_count_beyond) (defBody s_count_beyond) (defScope s_count_beyond) .none kV14 dc14 pm14 an14 cd14 ct14), sl14⟩)
    (c14 : PySem.W.codeIn K cd14 "count_beyond" = true)
    (k14 : PySem.W.keepIn K (.ref f14) = true)
    (a15 : PySem.W.nsIn K mainGlobals "_law_pool" = some (some (.ref f15)))
    (l15 : K.lookup f15 = some ⟨oc15, od15, .func (PySem.W.fnOf "_law_pool" "_law_pool" (defArgs s__law_pool) (defBody s__law_pool) (defScope s__law_pool) .none kV15 dc15 pm15 an15 cd15 ct15), sl15⟩)
    (c15 : PySem.W.codeIn K cd15 "_law_pool" = true)
    (k15 : PySem.W.keepIn K (.ref f15) = true)
    (a16 : PySem.W.nsIn K mainGlobals "_law_draw" = some (some (.ref f16)))
    (l16 : K.lookup f16 = some ⟨oc16, od16, .func (PySem.W.fnOf "_law_draw" "_law_draw" (defArgs s__law_draw) (defBody s__law_draw) (defScope s__law_draw) .none kV16 dc16 pm16 an16 cd16 ct16), sl16⟩)
    (c16 : PySem.W.codeIn K cd16 "_law_draw" = true)
    (k16 : PySem.W.keepIn K (.ref f16) = true)
    (a17 : PySem.W.nsIn K mainGlobals "_law_kinds" = some (some (.ref f17)))
    (l17 : K.lookup f17 = some ⟨oc17, od17, .func (PySem.W.fnOf "_law_kinds" "_law_kinds" (defArgs s__law_kinds) (defBody s__law_kinds) (defScope s__law_kinds) .none kV17 dc17 pm17 an17 cd17 ct17), sl17⟩)
    (c17 : PySem.W.codeIn K cd17 "_law_kinds" = true)
    (k17 : PySem.W.keepIn K (.ref f17) = true)
    (a18 : PySem.W.nsIn K mainGlobals "_law_model" = some (some (.ref f18)))
    (l18 : K.lookup f18 = some ⟨oc18, od18, .func (PySem.W.fnOf "_law_model" "_law_model" (defArgs s__law_model) (defBody s__law_model) (defScope s__law_model) .none kV18 dc18 pm18 an18 cd18 ct18), sl18⟩)
    (c18 : PySem.W.codeIn K cd18 "_law_model" = true)
    (k18 : PySem.W.keepIn K (.ref f18) = true)
    (a19 : PySem.W.nsIn K mainGlobals "_law_word" = some (some (.ref f19)))
    (l19 : K.lookup f19 = some ⟨oc19, od19, .func (PySem.W.fnOf "_law_word" "_law_word" (defArgs s__law_word) (defBody s__law_word) (defScope s__law_word) .none kV19 dc19 pm19 an19 cd19 ct19), sl19⟩)
    (c19 : PySem.W.codeIn K cd19 "_law_word" = true)
    (k19 : PySem.W.keepIn K (.ref f19) = true)
    (a20 : PySem.W.nsIn K mainGlobals "_law_bad_book" = some (some (.ref f20)))
    (l20 : K.lookup f20 = some ⟨oc20, od20, .func (PySem.W.fnOf "_law_bad_book" "_law_bad_book" (defArgs s__law_bad_book) (defBody s__law_bad_book) (defScope s__law_bad_book) .none kV20 dc20 pm20 an20 cd20 ct20), sl20⟩)
    (c20 : PySem.W.codeIn K cd20 "_law_bad_book" = true)
    (k20 : PySem.W.keepIn K (.ref f20) = true)
    (a21 : PySem.W.nsIn K mainGlobals "_law_told" = some (some (.ref f21)))
    (l21 : K.lookup f21 = some ⟨oc21, od21, .func (PySem.W.fnOf "_law_told" "_law_told" (defArgs s__law_told) (defBody s__law_told) (defScope s__law_told) .none kV21 dc21 pm21 an21 cd21 ct21), sl21⟩)
    (c21 : PySem.W.codeIn K cd21 "_law_told" = true)
    (k21 : PySem.W.keepIn K (.ref f21) = true)
    (a22 : PySem.W.nsIn K mainGlobals "_law_any" = some (some (.ref f22)))
    (l22 : K.lookup f22 = some ⟨oc22, od22, .func (PySem.W.fnOf "_law_any" "_law_any" (defArgs s__law_any) (defBody s__law_any) (defScope s__law_any) .none kV22 dc22 pm22 an22 cd22 ct22), sl22⟩)
    (c22 : PySem.W.codeIn K cd22 "_law_any" = true)
    (k22 : PySem.W.keepIn K (.ref f22) = true)
    (a23 : PySem.W.nsIn K mainGlobals "_law_right" = some (some (.ref f23)))
    (l23 : K.lookup f23 = some ⟨oc23, od23, .func (PySem.W.fnOf "_law_right" "_law_right" (defArgs s__law_right) (defBody s__law_right) (defScope s__law_right) .none kV23 dc23 pm23 an23 cd23 ct23), sl23⟩)
    (c23 : PySem.W.codeIn K cd23 "_law_right" = true)
    (k23 : PySem.W.keepIn K (.ref f23) = true)
    (a24 : PySem.W.nsIn K mainGlobals "law" = some (some (.ref f24)))
    (l24 : K.lookup f24 = some ⟨oc24, od24, .func (PySem.W.fnOf "law" "law" (defArgs s_law) (defBody s_law) (defScope s_law) .none kV24 dc24 pm24 an24 cd24 ct24), sl24⟩)
    (c24 : PySem.W.codeIn K cd24 "law" = true)
    (k24 : PySem.W.keepIn K (.ref f24) = true)
    (ta0 : PySem.W.nsIn K mainGlobals "KINDS" = some (some (.ref q0)))
    (tl0 : K.lookup q0 = some ⟨.type "tuple", qd0, .seq its0 qm0, qs0⟩)
    (tv0 : Vals vKINDS its0.toList)
    (ta1 : PySem.W.nsIn K mainGlobals "SIGNED" = some (some (.ref q1)))
    (tl1 : K.lookup q1 = some ⟨.type "tuple", qd1, .seq its1 qm1, qs1⟩)
    (tv1 : Vals vSIGNED its1.toList)
    (ta2 : PySem.W.nsIn K mainGlobals "UNSIGNED" = some (some (.ref q2)))
    (tl2 : K.lookup q2 = some ⟨.type "tuple", qd2, .seq its2 qm2, qs2⟩)
    (tv2 : Vals vUNSIGNED its2.toList)
    (ra : PySem.W.nsIn K mainGlobals "RANKS" = some (some (.ref qR)))
    (rl : K.lookup qR = some ⟨.type "dict", none, .dict esR nR, #[]⟩)
    (rk : PySem.W.KeysLit w.params esR.toList)
    (r0 : PySem.W.nsIn K qR "char" = some (some (.int 0 tR0)))
    (r1 : PySem.W.nsIn K qR "schar" = some (some (.int 0 tR1)))
    (r2 : PySem.W.nsIn K qR "uchar" = some (some (.int 0 tR2)))
    (r3 : PySem.W.nsIn K qR "short" = some (some (.int 1 tR3)))
    (r4 : PySem.W.nsIn K qR "ushort" = some (some (.int 1 tR4)))
    (r5 : PySem.W.nsIn K qR "int" = some (some (.int 2 tR5)))
    (r6 : PySem.W.nsIn K qR "uint" = some (some (.int 2 tR6)))
    (r7 : PySem.W.nsIn K qR "long" = some (some (.int 3 tR7)))
    (r8 : PySem.W.nsIn K qR "ulong" = some (some (.int 3 tR8)))
    (r9 : PySem.W.nsIn K qR "wide" = some (some (.int 4 tR9)))
    (r10 : PySem.W.nsIn K qR "uwide" = some (some (.int 4 tR10)))
    (ia4 : PySem.W.nsIn K mainGlobals "INT_RANK" = some (some (.int 2 tI4)))
    (ta5 : PySem.W.nsIn K mainGlobals "PLAIN_SIGNS" = some (some (.ref q5)))
    (tl5 : K.lookup q5 = some ⟨.type "tuple", qd5, .seq its5 qm5, qs5⟩)
    (tv5 : Vals vPLAIN its5.toList)
    (ia6 : PySem.W.nsIn K mainGlobals "LEAST_WIDTH" = some (some (.int 2 tI6)))
    (ia7 : PySem.W.nsIn K mainGlobals "GREATEST_WIDTH" = some (some (.int 128 tI7)))
    (xg0 : PySem.W.nsIn K mainGlobals "InvalidModel" = some (some (.ref xc0)))
    (xg1 : PySem.W.nsIn K mainGlobals "InvalidType" = some (some (.ref xc1)))
    (xg2 : PySem.W.nsIn K mainGlobals "InvalidVariables" = some (some (.ref xc2)))
    (xg3 : PySem.W.nsIn K mainGlobals "InvalidExpression" = some (some (.ref xc3)))
    (xg4 : PySem.W.nsIn K mainGlobals "InvalidValues" = some (some (.ref xc4)))
    (xg5 : PySem.W.nsIn K mainGlobals "InvalidNumber" = some (some (.ref xc5)))
    (xg6 : PySem.W.nsIn K mainGlobals "NotAdmitted" = some (some (.ref xc6)))
    (xg7 : PySem.W.nsIn K mainGlobals "NothingToUndo" = some (some (.ref xc7)))
    (xg8 : PySem.W.nsIn K mainGlobals "Unreadable" = some (some (.ref xc8)))
    (xgE : PySem.W.nsIn K mainGlobals "CastError" = some (some (.ref xcE)))
    (xe1 : PySem.W.subIn K (.ref xcE) (.type "BaseException") = some true)
    (xe2 : PySem.W.hasDictIn K xcE = true)
    (xe3 : PySem.W.typeIn K (.ref xcE) = some (.type "type"))
    (yn : PySem.W.specialIn K (.builtin "object.__class__") "__get__" = some (some (.builtin "getset_descriptor.__get__")))
    (yt : PySem.W.takesIn K (.builtin "object.__class__") = some true)
    (xl0 : K.lookup xc0 = some (excClassObj xn0 xq0 xc0 xN0 xbs0 xbm0 true xsn0 xsub0 xab0 xcol0 xdd0 xm00 xm10 xm20 xm30 xm50 "ValueError.__new__"))
    (xr0 : PySem.HandSPX.refsVE xbm0 = true)
    (xsa0 : PySem.W.findIn K (.ref xc0) "__setattr__" = some (some (.builtin "object.__setattr__")))
    (xex0 : PySem.W.subIn K (.ref xc0) (.type "BaseException") = some true)
    (xty0 : PySem.W.typeIn K (.ref xc0) = some (.type "type"))
    (xk0 : PySem.W.keepIn K (.ref xc0) = true)
    (xga0 : PySem.W.findIn K (.ref xc0) "__getattribute__" = some (some (.builtin "BaseException.__getattribute__")))
    (xgt0 : PySem.W.findIn K (.ref xc0) "__getattr__" = some none)
    (xhd0 : PySem.W.hasDictIn K xc0 = true)
    (xcl0 : PySem.W.findIn K (.ref xc0) "__class__" = some (some (.builtin "object.__class__")))
    (xmo0 : PySem.W.mroIn K xc0 (.type "object") = some true)
    (xno0 : PySem.W.findIn K (.ref xc0) "value" = some none)
    (xi0 : PySem.W.findIn K (.ref xc0) "__init__" = some (some (.ref xf0)))
    (xti0 : PySem.W.typeIn K (.ref xf0) = some (.type "function"))
    (xfl0 : K.lookup xf0 = some ⟨ioc0, iod0, .func (PySem.W.fnOf "__init__" "InvalidModel.__init__" (defArgs i_InvalidModel) (defBody i_InvalidModel) (defScope i_InvalidModel) .none ikV0 idc0 ipm0 ian0 icd0 ict0), isl0⟩)
    (xfc0 : PySem.W.codeIn K icd0 "InvalidModel.__init__" = true)
    (xfk0 : PySem.W.keepIn K (.ref xf0) = true)
    (xsE0 : PySem.W.subIn K (.ref xc0) (.ref xcE) = some true)
    (xkE0 : PySem.W.kitOne K (.ref xc0) (.ref xcE) = some true)
    (xkt00 : PySem.W.kitOne K (.ref xc0) (.ref xc0) = some true)
    (xkt01 : PySem.W.kitOne K (.ref xc0) (.ref xc1) = some false)
    (xkt02 : PySem.W.kitOne K (.ref xc0) (.ref xc2) = some false)
    (xkt03 : PySem.W.kitOne K (.ref xc0) (.ref xc3) = some false)
    (xkt04 : PySem.W.kitOne K (.ref xc0) (.ref xc4) = some false)
    (xkt05 : PySem.W.kitOne K (.ref xc0) (.ref xc5) = some false)
    (xkt06 : PySem.W.kitOne K (.ref xc0) (.ref xc6) = some false)
    (xkt07 : PySem.W.kitOne K (.ref xc0) (.ref xc7) = some false)
    (xkt08 : PySem.W.kitOne K (.ref xc0) (.ref xc8) = some false)
    (xkv0 : PySem.W.kitOne K (.ref xc0) (.type "ValueError") = some true)
    (xl1 : K.lookup xc1 = some (excClassObj xn1 xq1 xc1 xN1 xbs1 xbm1 true xsn1 xsub1 xab1 xcol1 xdd1 xm01 xm11 xm21 xm31 xm51 "ValueError.__new__"))
    (xr1 : PySem.HandSPX.refsVE xbm1 = true)
    (xsa1 : PySem.W.findIn K (.ref xc1) "__setattr__" = some (some (.builtin "object.__setattr__")))
    (xex1 : PySem.W.subIn K (.ref xc1) (.type "BaseException") = some true)
    (xty1 : PySem.W.typeIn K (.ref xc1) = some (.type "type"))
    (xk1 : PySem.W.keepIn K (.ref xc1) = true)
    (xga1 : PySem.W.findIn K (.ref xc1) "__getattribute__" = some (some (.builtin "BaseException.__getattribute__")))
    (xgt1 : PySem.W.findIn K (.ref xc1) "__getattr__" = some none)
    (xhd1 : PySem.W.hasDictIn K xc1 = true)
    (xcl1 : PySem.W.findIn K (.ref xc1) "__class__" = some (some (.builtin "object.__class__")))
    (xmo1 : PySem.W.mroIn K xc1 (.type "object") = some true)
    (xno1 : PySem.W.findIn K (.ref xc1) "value" = some none)
    (xi1 : PySem.W.findIn K (.ref xc1) "__init__" = some (some (.ref xf1)))
    (xti1 : PySem.W.typeIn K (.ref xf1) = some (.type "function"))
    (xfl1 : K.lookup xf1 = some ⟨ioc1, iod1, .func (PySem.W.fnOf "__init__" "InvalidType.__init__" (defArgs i_InvalidType) (defBody i_InvalidType) (defScope i_InvalidType) .none ikV1 idc1 ipm1 ian1 icd1 ict1), isl1⟩)
    (xfc1 : PySem.W.codeIn K icd1 "InvalidType.__init__" = true)
    (xfk1 : PySem.W.keepIn K (.ref xf1) = true)
    (xsE1 : PySem.W.subIn K (.ref xc1) (.ref xcE) = some true)
    (xkE1 : PySem.W.kitOne K (.ref xc1) (.ref xcE) = some true)
    (xkt10 : PySem.W.kitOne K (.ref xc1) (.ref xc0) = some false)
    (xkt11 : PySem.W.kitOne K (.ref xc1) (.ref xc1) = some true)
    (xkt12 : PySem.W.kitOne K (.ref xc1) (.ref xc2) = some false)
    (xkt13 : PySem.W.kitOne K (.ref xc1) (.ref xc3) = some false)
    (xkt14 : PySem.W.kitOne K (.ref xc1) (.ref xc4) = some false)
    (xkt15 : PySem.W.kitOne K (.ref xc1) (.ref xc5) = some false)
    (xkt16 : PySem.W.kitOne K (.ref xc1) (.ref xc6) = some false)
    (xkt17 : PySem.W.kitOne K (.ref xc1) (.ref xc7) = some false)
    (xkt18 : PySem.W.kitOne K (.ref xc1) (.ref xc8) = some false)
    (xkv1 : PySem.W.kitOne K (.ref xc1) (.type "ValueError") = some true)
    (xl5 : K.lookup xc5 = some (excClassObj xn5 xq5 xc5 xN5 xbs5 xbm5 true xsn5 xsub5 xab5 xcol5 xdd5 xm05 xm15 xm25 xm35 xm55 "ValueError.__new__"))
    (xr5 : PySem.HandSPX.refsVE xbm5 = true)
    (xsa5 : PySem.W.findIn K (.ref xc5) "__setattr__" = some (some (.builtin "object.__setattr__")))
    (xex5 : PySem.W.subIn K (.ref xc5) (.type "BaseException") = some true)
    (xty5 : PySem.W.typeIn K (.ref xc5) = some (.type "type"))
    (xk5 : PySem.W.keepIn K (.ref xc5) = true)
    (xga5 : PySem.W.findIn K (.ref xc5) "__getattribute__" = some (some (.builtin "BaseException.__getattribute__")))
    (xgt5 : PySem.W.findIn K (.ref xc5) "__getattr__" = some none)
    (xhd5 : PySem.W.hasDictIn K xc5 = true)
    (xcl5 : PySem.W.findIn K (.ref xc5) "__class__" = some (some (.builtin "object.__class__")))
    (xmo5 : PySem.W.mroIn K xc5 (.type "object") = some true)
    (xno5 : PySem.W.findIn K (.ref xc5) "value" = some none)
    (xi5 : PySem.W.findIn K (.ref xc5) "__init__" = some (some (.ref xf5)))
    (xti5 : PySem.W.typeIn K (.ref xf5) = some (.type "function"))
    (xfl5 : K.lookup xf5 = some ⟨ioc5, iod5, .func (PySem.W.fnOf "__init__" "InvalidNumber.__init__" (defArgs i_InvalidNumber) (defBody i_InvalidNumber) (defScope i_InvalidNumber) .none ikV5 idc5 ipm5 ian5 icd5 ict5), isl5⟩)
    (xfc5 : PySem.W.codeIn K icd5 "InvalidNumber.__init__" = true)
    (xfk5 : PySem.W.keepIn K (.ref xf5) = true)
    (xsE5 : PySem.W.subIn K (.ref xc5) (.ref xcE) = some true)
    (xkE5 : PySem.W.kitOne K (.ref xc5) (.ref xcE) = some true)
    (xkt50 : PySem.W.kitOne K (.ref xc5) (.ref xc0) = some false)
    (xkt51 : PySem.W.kitOne K (.ref xc5) (.ref xc1) = some false)
    (xkt52 : PySem.W.kitOne K (.ref xc5) (.ref xc2) = some false)
    (xkt53 : PySem.W.kitOne K (.ref xc5) (.ref xc3) = some false)
    (xkt54 : PySem.W.kitOne K (.ref xc5) (.ref xc4) = some false)
    (xkt55 : PySem.W.kitOne K (.ref xc5) (.ref xc5) = some true)
    (xkt56 : PySem.W.kitOne K (.ref xc5) (.ref xc6) = some false)
    (xkt57 : PySem.W.kitOne K (.ref xc5) (.ref xc7) = some false)
    (xkt58 : PySem.W.kitOne K (.ref xc5) (.ref xc8) = some false)
    (xkv5 : PySem.W.kitOne K (.ref xc5) (.type "ValueError") = some true)
    (fn_comb : PySem.W.nsIn K mainGlobals "comb" = some (some (.builtin "math.comb")))
    (z0 : PySem.W.nsIn K mainGlobals "len" = some none)
    (z1 : PySem.W.nsIn K mainGlobals "enumerate" = some none)
    (z2 : PySem.W.nsIn K mainGlobals "sum" = some none)
    (z3 : PySem.W.nsIn K mainGlobals "max" = some none)
    (z4 : PySem.W.nsIn K mainGlobals "abs" = some none)
    (z5 : PySem.W.nsIn K mainGlobals "range" = some none)
    (z6 : PySem.W.nsIn K mainGlobals "min" = some none)
    (z7 : PySem.W.nsIn K mainGlobals "tuple" = some none)
    (z8 : PySem.W.nsIn K mainGlobals "int" = some none)
    (z9 : PySem.W.nsIn K mainGlobals "sorted" = some none)
    (z10 : PySem.W.nsIn K mainGlobals "isinstance" = some none)
    (z11 : PySem.W.nsIn K mainGlobals "ValueError" = some none)
    (z12 : PySem.W.nsIn K mainGlobals "list" = some none)
    (z13 : PySem.W.nsIn K mainGlobals "repr" = some none) :
    ∃ fd : FuncData, (∀ (s : Shared) (u : Value), BindsTo s fd ⟨[u], []⟩ [("script", u)]) ∧ ∀ base : Heap, K.In base → base.Ns mainGlobals mg → FnG Pr w K mg base CX0 9 fa fd ["script"] (spLaw K) := by
  have e := hfa.symm.trans (PySem.W.mg_of X G a24)
  cases e
  have D0 := df_mk (st := s_check_widths) (ps := ["widths"]) X G a0 l0 c0 k0 fun _ _ _ _ _ _ us hl => match us, hl with | [_], _ => rfl
  have D1 := df_mk (st := s_check_model) (ps := ["model"]) X G a1 l1 c1 k1 fun _ _ _ _ _ _ us hl => match us, hl with | [_], _ => rfl
  have D2 := df_mk (st := s_check_kind) (ps := ["kind"]) X G a2 l2 c2 k2 fun _ _ _ _ _ _ us hl => match us, hl with | [_], _ => rfl
  have D3 := df_mk (st := s_bits_of) (ps := ["model", "kind"]) X G a3 l3 c3 k3 fun _ _ _ _ _ _ us hl => match us, hl with | [_, _], _ => rfl
  have D4 := df_mk (st := s_is_unsigned) (ps := ["model", "kind"]) X G a4 l4 c4 k4 fun _ _ _ _ _ _ us hl => match us, hl with | [_, _], _ => rfl
  have D5 := df_mk (st := s_limits_of) (ps := ["model", "kind"]) X G a5 l5 c5 k5 fun _ _ _ _ _ _ us hl => match us, hl with | [_, _], _ => rfl
  have D6 := df_mk (st := s_promoted_kind) (ps := ["model", "kind"]) X G a6 l6 c6 k6 fun _ _ _ _ _ _ us hl => match us, hl with | [_, _], _ => rfl
  have D7 := df_mk (st := s__common_of_mixed) (ps := ["model", "unsigned", "signed"]) X G a7 l7 c7 k7 fun _ _ _ _ _ _ us hl => match us, hl with | [_, _, _], _ => rfl
  have D8 := df_mk (st := s_common_kind) (ps := ["model", "first", "second"]) X G a8 l8 c8 k8 fun _ _ _ _ _ _ us hl => match us, hl with | [_, _, _], _ => rfl
  have D9 := df_mk (st := s__checked_signed_one) (ps := ["model", "first", "second"]) X G a9 l9 c9 k9 fun _ _ _ _ _ _ us hl => match us, hl with | [_, _, _], _ => rfl
  have D10 := df_mk (st := s_count_wrong) (ps := ["model", "first", "second"]) X G a10 l10 c10 k10 fun _ _ _ _ _ _ us hl => match us, hl with | [_, _, _], _ => rfl
  have D11 := df_mk (st := s_first_wrong) (ps := ["model", "first", "second"]) X G a11 l11 c11 k11 fun _ _ _ _ _ _ us hl => match us, hl with | [_, _, _], _ => rfl
  have D12 := df_mk (st := s_check_ranges) (ps := ["ranges"]) X G a12 l12 c12 k12 fun _ _ _ _ _ _ us hl => match us, hl with | [_], _ => rfl
  have D13 := df_mk (st := s__ways_up_to) (ps := ["most", "ranges"]) X G a13 l13 c13 k13 fun _ _ _ _ _ _ us hl => match us, hl with | [_, _], _ => rfl
  have D14 := df_mk (st := s_count_beyond) (ps := ["model", "kind", "ranges"]) X G a14 l14 c14 k14 fun _ _ _ _ _ _ us hl => match us, hl with | [_, _, _], _ => rfl
  have D15 := df_mk (st := s__law_pool) (ps := ["script", "at"]) X G a15 l15 c15 k15 fun _ _ _ _ _ _ us hl => match us, hl with | [_, _], _ => rfl
  have D16 := df_mk (st := s__law_draw) (ps := ["pool", "many"]) X G a16 l16 c16 k16 fun _ _ _ _ _ _ us hl => match us, hl with | [_, _], _ => rfl
  have D17 := df_mk (st := s__law_kinds) (ps := []) X G a17 l17 c17 k17 fun _ _ _ _ _ _ us hl => match us, hl with | [], _ => rfl
  have D18 := df_mk (st := s__law_model) (ps := ["pool", "top"]) X G a18 l18 c18 k18 fun _ _ _ _ _ _ us hl => match us, hl with | [_, _], _ => rfl
  have D19 := df_mk (st := s__law_word) (ps := ["caught"]) X G a19 l19 c19 k19 fun _ _ _ _ _ _ us hl => match us, hl with | [_], _ => rfl
  have D20 := df_mk (st := s__law_bad_book) (ps := ["pool", "book"]) X G a20 l20 c20 k20 fun _ _ _ _ _ _ us hl => match us, hl with | [_, _], _ => rfl
  have D21 := df_mk (st := s__law_told) (ps := ["door", "book", "one", "two", "rows"]) X G a21 l21 c21 k21 fun _ _ _ _ _ _ us hl => match us, hl with | [_, _, _, _, _], _ => rfl
  have D22 := df_mk (st := s__law_any) (ps := ["pool"]) X G a22 l22 c22 k22 fun _ _ _ _ _ _ us hl => match us, hl with | [_], _ => rfl
  have D23 := df_mk (st := s__law_right) (ps := ["pool"]) X G a23 l23 c23 k23 fun _ _ _ _ _ _ us hl => match us, hl with | [_], _ => rfl
  have D24 := df_mk (st := s_law) (ps := ["script"]) X G a24 l24 c24 k24 fun _ _ _ _ _ _ us hl => match us, hl with | [_], _ => rfl
  have T_KINDS : CT K mg "KINDS" vKINDS := ct_mk X G ta0 tl0 tv0 (by decide)
  have T_SIGNED : CT K mg "SIGNED" vSIGNED := ct_mk X G ta1 tl1 tv1 (by decide)
  have T_UNSIGNED : CT K mg "UNSIGNED" vUNSIGNED := ct_mk X G ta2 tl2 tv2 (by decide)
  have R_RANKS : CR5 K w mg := ⟨qR, PySem.W.mg_of X G ra, fun k => by
    cases k
    · exact ⟨esR, nR, _, rl, rk, r0, ⟨_, rfl⟩⟩
    · exact ⟨esR, nR, _, rl, rk, r1, ⟨_, rfl⟩⟩
    · exact ⟨esR, nR, _, rl, rk, r2, ⟨_, rfl⟩⟩
    · exact ⟨esR, nR, _, rl, rk, r3, ⟨_, rfl⟩⟩
    · exact ⟨esR, nR, _, rl, rk, r4, ⟨_, rfl⟩⟩
    · exact ⟨esR, nR, _, rl, rk, r5, ⟨_, rfl⟩⟩
    · exact ⟨esR, nR, _, rl, rk, r6, ⟨_, rfl⟩⟩
    · exact ⟨esR, nR, _, rl, rk, r7, ⟨_, rfl⟩⟩
    · exact ⟨esR, nR, _, rl, rk, r8, ⟨_, rfl⟩⟩
    · exact ⟨esR, nR, _, rl, rk, r9, ⟨_, rfl⟩⟩
    · exact ⟨esR, nR, _, rl, rk, r10, ⟨_, rfl⟩⟩⟩
  have I_INT_RANK : CI mg "INT_RANK" 2 := ci_mk X G ia4
  have T_PLAIN_SIGNS : CT K mg "PLAIN_SIGNS" vPLAIN := ct_mk X G ta5 tl5 tv5 (by decide)
  have I_LEAST_WIDTH : CI mg "LEAST_WIDTH" 2 := ci_mk X G ia6
  have I_GREATEST_WIDTH : CI mg "GREATEST_WIDTH" 128 := ci_mk X G ia7
  have N_len : mg "len" = none := PySem.W.mg_none_of X G z0
  have N_enumerate : mg "enumerate" = none := PySem.W.mg_none_of X G z1
  have N_sum : mg "sum" = none := PySem.W.mg_none_of X G z2
  have N_max : mg "max" = none := PySem.W.mg_none_of X G z3
  have N_abs : mg "abs" = none := PySem.W.mg_none_of X G z4
  have N_range : mg "range" = none := PySem.W.mg_none_of X G z5
  have N_min : mg "min" = none := PySem.W.mg_none_of X G z6
  have N_tuple : mg "tuple" = none := PySem.W.mg_none_of X G z7
  have N_int : mg "int" = none := PySem.W.mg_none_of X G z8
  have N_sorted : mg "sorted" = none := PySem.W.mg_none_of X G z9
  have N_isinstance : mg "isinstance" = none := PySem.W.mg_none_of X G z10
  have N_ValueError : mg "ValueError" = none := PySem.W.mg_none_of X G z11
  have N_list : mg "list" = none := PySem.W.mg_none_of X G z12
  have N_repr : mg "repr" = none := PySem.W.mg_none_of X G z13
  have Ox0 : OexC K xc0 := ⟨⟨_, _, _, _, _, _, _, _, _, _, _, _, _, _, _, xl0, xr0⟩, xsa0, xex0, xty0, xk0⟩
  have Ec0 : ExcC K xc0 := ⟨xga0, xgt0, xex0, xhd0, xcl0, yn, yt, xmo0⟩
  have If0 : IsF K xc0 xc0 xc1 xc2 xc3 xc4 xc5 xc6 xc7 xc8 true false false false false false false false false := ⟨Ec0, xno0, xkt00, xkt01, xkt02, xkt03, xkt04, xkt05, xkt06, xkt07, xkt08, xkv0⟩
  have eE0 : PySem.W.exmOne K (.ref xc0) (.ref xcE) = some true := PySem.W.exm_ref xe1 xe2 xe3 xsE0
  have Ox1 : OexC K xc1 := ⟨⟨_, _, _, _, _, _, _, _, _, _, _, _, _, _, _, xl1, xr1⟩, xsa1, xex1, xty1, xk1⟩
  have Ec1 : ExcC K xc1 := ⟨xga1, xgt1, xex1, xhd1, xcl1, yn, yt, xmo1⟩
  have If1 : IsF K xc1 xc0 xc1 xc2 xc3 xc4 xc5 xc6 xc7 xc8 false true false false false false false false false := ⟨Ec1, xno1, xkt10, xkt11, xkt12, xkt13, xkt14, xkt15, xkt16, xkt17, xkt18, xkv1⟩
  have eE1 : PySem.W.exmOne K (.ref xc1) (.ref xcE) = some true := PySem.W.exm_ref xe1 xe2 xe3 xsE1
  have Ox5 : OexC K xc5 := ⟨⟨_, _, _, _, _, _, _, _, _, _, _, _, _, _, _, xl5, xr5⟩, xsa5, xex5, xty5, xk5⟩
  have Ec5 : ExcC K xc5 := ⟨xga5, xgt5, xex5, xhd5, xcl5, yn, yt, xmo5⟩
  have If5 : IsF K xc5 xc0 xc1 xc2 xc3 xc4 xc5 xc6 xc7 xc8 false false false false false true false false false := ⟨Ec5, xno5, xkt50, xkt51, xkt52, xkt53, xkt54, xkt55, xkt56, xkt57, xkt58, xkv5⟩
  have eE5 : PySem.W.exmOne K (.ref xc5) (.ref xcE) = some true := PySem.W.exm_ref xe1 xe2 xe3 xsE5
  have E_9 : Er9 K mg xc0 xc1 xc2 xc3 xc4 xc5 xc6 xc7 xc8 := ⟨PySem.W.mg_of X G xg0, PySem.W.mg_of X G xg1, PySem.W.mg_of X G xg2, PySem.W.mg_of X G xg3, PySem.W.mg_of X G xg4, PySem.W.mg_of X G xg5, PySem.W.mg_of X G xg6, PySem.W.mg_of X G xg7, PySem.W.mg_of X G xg8, If0, If1⟩
  have gE : mg "CastError" = some (.ref xcE) := PySem.W.mg_of X G xgE
  have E_N : ErN K mg xc0 xc1 xc2 xc3 xc4 xc5 xc6 xc7 xc8 xcE := ⟨E_9, If5, gE, xkE0, xkE1, xkE5⟩
  have F_comb : mg "comb" = some (.builtin "math.comb") := PySem.W.mg_of X G fn_comb
  refine ⟨PySem.W.fnOf "law" "law" (defArgs s_law) (defBody s_law) (defScope s_law) .none kV24 dc24 pm24 an24 cd24 ct24, fun s v => .of_eq rfl, fun base _ _ => ?_⟩
  have X_InvalidModel : Xi Pr w K mg base "InvalidModel" xc0 := ⟨_, _, ⟨PySem.W.mg_of X G xg0, Ox0, Ec0, xno0, xi0, xti0⟩, ok_init_InvalidModel (fun_mk (st := i_InvalidModel) xfl0 xfc0 xfk0), (fun_mk (st := i_InvalidModel) xfl0 xfc0 xfk0).binds fun _ _ _ _ _ _ us hl => match us, hl with | [_, _], _ => rfl⟩
  have X_InvalidType : Xi Pr w K mg base "InvalidType" xc1 := ⟨_, _, ⟨PySem.W.mg_of X G xg1, Ox1, Ec1, xno1, xi1, xti1⟩, ok_init_InvalidType (fun_mk (st := i_InvalidType) xfl1 xfc1 xfk1), (fun_mk (st := i_InvalidType) xfl1 xfc1 xfk1).binds fun _ _ _ _ _ _ us hl => match us, hl with | [_, _], _ => rfl⟩
  have X_InvalidNumber : Xi Pr w K mg base "InvalidNumber" xc5 := ⟨_, _, ⟨PySem.W.mg_of X G xg5, Ox5, Ec5, xno5, xi5, xti5⟩, ok_init_InvalidNumber (fun_mk (st := i_InvalidNumber) xfl5 xfc5 xfk5), (fun_mk (st := i_InvalidNumber) xfl5 xfc5 xfk5).binds fun _ _ _ _ _ _ us hl => match us, hl with | [_, _], _ => rfl⟩
  have G_check_widths := ok_check_widths (P := Pr) (w := w) (base := base) D0 T_SIGNED I_LEAST_WIDTH I_GREATEST_WIDTH X_InvalidModel N_len N_enumerate
  have C_check_widths := ClX.mk D0 G_check_widths
  have G_check_model := ok_check_model (P := Pr) (w := w) (base := base) D1 C_check_widths T_PLAIN_SIGNS X_InvalidModel
  have C_check_model := ClX.mk D1 G_check_model
  have G_check_kind := ok_check_kind (P := Pr) (w := w) (base := base) D2 T_KINDS X_InvalidType
  have C_check_kind := ClX.mk D2 G_check_kind
  have G_bits_of := ok_bits_of (P := Pr) (w := w) (base := base) D3 R_RANKS
  have C_bits_of := Cl.mk D3 G_bits_of
  have G_is_unsigned := ok_is_unsigned (P := Pr) (w := w) (base := base) D4 T_UNSIGNED
  have C_is_unsigned := Cl.mk D4 G_is_unsigned
  have G_limits_of := ok_limits_of (P := Pr) (w := w) (base := base) D5 C_bits_of C_is_unsigned
  have C_limits_of := Cl.mk D5 G_limits_of
  have G_promoted_kind := ok_promoted_kind (P := Pr) (w := w) (base := base) D6 R_RANKS I_INT_RANK C_is_unsigned C_bits_of
  have C_promoted_kind := Cl.mk D6 G_promoted_kind
  have G__common_of_mixed := ok__common_of_mixed (P := Pr) (w := w) (base := base) D7 R_RANKS T_UNSIGNED C_bits_of
  have C__common_of_mixed := Cl.mk D7 G__common_of_mixed
  have G_common_kind := ok_common_kind (P := Pr) (w := w) (base := base) D8 R_RANKS C_promoted_kind C_is_unsigned C__common_of_mixed
  have C_common_kind := Cl.mk D8 G_common_kind
  have G__checked_signed_one := ok__checked_signed_one (P := Pr) (w := w) (base := base) D9 C_check_model C_check_kind C_is_unsigned C_common_kind
  have C__checked_signed_one := ClX.mk D9 G__checked_signed_one
  have G_count_wrong := ok_count_wrong (P := Pr) (w := w) (base := base) D10 C__checked_signed_one C_limits_of C_bits_of C_common_kind
  have C_count_wrong := ClX.mk D10 G_count_wrong
  have K_count_wrong := CkX.mk (ks := ["second", "first", "model"]) (gV := gV3) D10 G_count_wrong gU3 (fun _ _ _ _ _ _ ws hl => match ws, hl with | [_, _, _], _ => rfl) (fun a b => g3_rel a b)
  have G_first_wrong := ok_first_wrong (P := Pr) (w := w) (base := base) D11 C__checked_signed_one C_limits_of
  have C_first_wrong := ClX.mk D11 G_first_wrong
  have G_check_ranges := ok_check_ranges (P := Pr) (w := w) (base := base) D12 X_InvalidNumber N_enumerate
  have C_check_ranges := ClX.mk D12 G_check_ranges
  have G__ways_up_to := ok__ways_up_to (P := Pr) (w := w) (base := base) D13 N_sum N_len F_comb
  have C__ways_up_to := Cl.mk D13 G__ways_up_to
  have G_count_beyond := ok_count_beyond (P := Pr) (w := w) (base := base) D14 C_check_model C_check_kind C_check_ranges C_limits_of C__ways_up_to
  have C_count_beyond := ClX.mk D14 G_count_beyond
  have G__law_pool := ok__law_pool (P := Pr) (w := w) (base := base) D15 N_len N_max N_abs
  have C__law_pool := Cl.mk D15 G__law_pool
  have G__law_draw := ok__law_draw (P := Pr) (w := w) (base := base) D16 
  have C__law_draw := Cl.mk D16 G__law_draw
  have G__law_kinds := ok__law_kinds (P := Pr) (w := w) (base := base) D17 
  have C__law_kinds := Cl.mk D17 G__law_kinds
  have G__law_model := ok__law_model (P := Pr) (w := w) (base := base) D18 C__law_draw N_range N_min N_max N_tuple N_int N_sorted
  have C__law_model := Cl.mk D18 G__law_model
  have G__law_word := ok__law_word (P := Pr) (w := w) (base := base) D19 E_N N_isinstance N_ValueError
  have C__law_word := Cl.mk D19 G__law_word
  have G__law_bad_book := ok__law_bad_book (P := Pr) (w := w) (base := base) D20 C__law_draw N_list N_tuple
  have C__law_bad_book := Cl.mk D20 G__law_bad_book
  have G__law_told := ok__law_told (P := Pr) (w := w) (base := base) D21 E_N eE0 eE1 eE5 C_count_wrong C_first_wrong K_count_wrong C_count_beyond C__law_word
  have C__law_told := Cl.mk D21 G__law_told
  have G__law_any := ok__law_any (P := Pr) (w := w) (base := base) D22 C__law_draw C__law_kinds N_int
  have C__law_any := Cl.mk D22 G__law_any
  have G__law_right := ok__law_right (P := Pr) (w := w) (base := base) D23 C__law_draw C__law_kinds C__law_model C__law_any C__law_bad_book C__law_told N_range N_int N_enumerate N_repr
  have C__law_right := Cl.mk D23 G__law_right
  have G_law := ok_law (P := Pr) (w := w) (base := base) D24 C__law_pool C__law_right C__law_told N_range N_min N_max N_len
  exact G_law
end Cf
open PySem PySem.W PyProof.Rows
set_option maxHeartbeats 0 in
theorem PySem.Challenge.cw_castforms_k49_errors_of_mixed_and_sums_holds : PySem.Challenge.rw_castforms_k49_errors_of_mixed_and_sums.Holds := by
  w_on; o_law; k_head; (case hw => w_witness2)
  k_fill
  refine Cf.walkG (l := PySem.Challenge.rw_castforms_k49_errors_of_mixed_and_sums) (n := 63) (k := 9) (x := "script") (CX := fun _ => L2.CX0) (sp := fun w => Cf.spLaw _) rfl (by decide) rfl ⟨rfl, by decide, by decide⟩ (fun w h Y => PySem.W.kIn_of Y) ?F (fun _ _ a ns hl _ hS => ⟨a, ns, rfl, hS, hl, fun _ => rfl⟩) (fun _ _ _ _ _ h => h)
  case F =>
    intro w mg fa h KX G hmg
    refine' Cf.all_mk (w := w) KX G hmg ?a0 ?l0 ?c0 ?k0 ?a1 ?l1 ?c1 ?k1 ?a2 ?l2 ?c2 ?k2 ?a3 ?l3 ?c3 ?k3 ?a4 ?l4 ?c4 ?k4 ?a5 ?l5 ?c5 ?k5 ?a6 ?l6 ?c6 ?k6 ?a7 ?l7 ?c7 ?k7 ?a8 ?l8 ?c8 ?k8 ?a9 ?l9 ?c9 ?k9 ?a10 ?l10 ?c10 ?k10 ?a11 ?l11 ?c11 ?k11 ?a12 ?l12 ?c12 ?k12 ?a13 ?l13 ?c13 ?k13 ?a14 ?l14 ?c14 ?k14 ?a15 ?l15 ?c15 ?k15 ?a16 ?l16 ?c16 ?k16 ?a17 ?l17 ?c17 ?k17 ?a18 ?l18 ?c18 ?k18 ?a19 ?l19 ?c19 ?k19 ?a20 ?l20 ?c20 ?k20 ?a21 ?l21 ?c21 ?k21 ?a22 ?l22 ?c22 ?k22 ?a23 ?l23 ?c23 ?k23 ?a24 ?l24 ?c24 ?k24 ?ta0 ?tl0 ?tv0 ?ta1 ?tl1 ?tv1 ?ta2 ?tl2 ?tv2 ?ra ?rl ?rk ?r0 ?r1 ?r2 ?r3 ?r4 ?r5 ?r6 ?r7 ?r8 ?r9 ?r10 ?ia4 ?ta5 ?tl5 ?tv5 ?ia6 ?ia7 ?xg0 ?xg1 ?xg2 ?xg3 ?xg4 ?xg5 ?xg6 ?xg7 ?xg8 ?xgE ?xe1 ?xe2 ?xe3 ?yn ?yt ?xl0 ?xr0 ?xsa0 ?xex0 ?xty0 ?xk0 ?xga0 ?xgt0 ?xhd0 ?xcl0 ?xmo0 ?xno0 ?xi0 ?xti0 ?xfl0 ?xfc0 ?xfk0 ?xsE0 ?xkE0 ?xkt00 ?xkt01 ?xkt02 ?xkt03 ?xkt04 ?xkt05 ?xkt06 ?xkt07 ?xkt08 ?xkv0 ?xl1 ?xr1 ?xsa1 ?xex1 ?xty1 ?xk1 ?xga1 ?xgt1 ?xhd1 ?xcl1 ?xmo1 ?xno1 ?xi1 ?xti1 ?xfl1 ?xfc1 ?xfk1 ?xsE1 ?xkE1 ?xkt10 ?xkt11 ?xkt12 ?xkt13 ?xkt14 ?xkt15 ?xkt16 ?xkt17 ?xkt18 ?xkv1 ?xl5 ?xr5 ?xsa5 ?xex5 ?xty5 ?xk5 ?xga5 ?xgt5 ?xhd5 ?xcl5 ?xmo5 ?xno5 ?xi5 ?xti5 ?xfl5 ?xfc5 ?xfk5 ?xsE5 ?xkE5 ?xkt50 ?xkt51 ?xkt52 ?xkt53 ?xkt54 ?xkt55 ?xkt56 ?xkt57 ?xkt58 ?xkv5 ?fn_comb ?z0 ?z1 ?z2 ?z3 ?z4 ?z5 ?z6 ?z7 ?z8 ?z9 ?z10 ?z11 ?z12 ?z13
    (case a0 => k_is)
    (case l0 => k_is)
    (case c0 => k_is)
    (case k0 => k_is)
    (case a1 => k_is)
    (case l1 => k_is)
    (case c1 => k_is)
    (case k1 => k_is)
    (case a2 => k_is)
    (case l2 => k_is)
    (case c2 => k_is)
    (case k2 => k_is)
    (case a3 => k_is)
    (case l3 => k_is)
    (case c3 => k_is)
    (case k3 => k_is)
    (case a4 => k_is)
    (case l4 => k_is)
    (case c4 => k_is)
    (case k4 => k_is)
    (case a5 => k_is)
    (case l5 => k_is)
    (case c5 => k_is)
    (case k5 => k_is)
    (case a6 => k_is)
    (case l6 => k_is)
    (case c6 => k_is)
    (case k6 => k_is)
    (case a7 => k_is)
    (case l7 => k_is)
    (case c7 => k_is)
    (case k7 => k_is)
    (case a8 => k_is)
    (case l8 => k_is)
    (case c8 => k_is)
    (case k8 => k_is)
    (case a9 => k_is)
    (case l9 => k_is)
    (case c9 => k_is)
    (case k9 => k_is)
    (case a10 => k_is)
    (case l10 => k_is)
    (case c10 => k_is)
    (case k10 => k_is)
    (case a11 => k_is)
    (case l11 => k_is)
    (case c11 => k_is)
    (case k11 => k_is)
    (case a12 => k_is)
    (case l12 => k_is)
    (case c12 => k_is)
    (case k12 => k_is)
    (case a13 => k_is)
    (case l13 => k_is)
    (case c13 => k_is)
    (case k13 => k_is)
    (case a14 => k_is)
    (case l14 => k_is)
    (case c14 => k_is)
    (case k14 => k_is)
    (case a15 => k_is)
    (case l15 => k_is)
    (case c15 => k_is)
    (case k15 => k_is)
    (case a16 => k_is)
    (case l16 => k_is)
    (case c16 => k_is)
    (case k16 => k_is)
    (case a17 => k_is)
    (case l17 => k_is)
    (case c17 => k_is)
    (case k17 => k_is)
    (case a18 => k_is)
    (case l18 => k_is)
    (case c18 => k_is)
    (case k18 => k_is)
    (case a19 => k_is)
    (case l19 => k_is)
    (case c19 => k_is)
    (case k19 => k_is)
    (case a20 => k_is)
    (case l20 => k_is)
    (case c20 => k_is)
    (case k20 => k_is)
    (case a21 => k_is)
    (case l21 => k_is)
    (case c21 => k_is)
    (case k21 => k_is)
    (case a22 => k_is)
    (case l22 => k_is)
    (case c22 => k_is)
    (case k22 => k_is)
    (case a23 => k_is)
    (case l23 => k_is)
    (case c23 => k_is)
    (case k23 => k_is)
    (case a24 => k_is)
    (case l24 => k_is)
    (case c24 => k_is)
    (case k24 => k_is)
    (case ta0 => k_is)
    (case tl0 => k_is)
    (case tv0 => repeat (first | exact L2.Paired.nil | exact Paired.nil | refine Paired.cons ⟨_, rfl⟩ ?_))
    (case ta1 => k_is)
    (case tl1 => k_is)
    (case tv1 => repeat (first | exact L2.Paired.nil | exact Paired.nil | refine Paired.cons ⟨_, rfl⟩ ?_))
    (case ta2 => k_is)
    (case tl2 => k_is)
    (case tv2 => repeat (first | exact L2.Paired.nil | exact Paired.nil | refine Paired.cons ⟨_, rfl⟩ ?_))
    (case ra => k_is)
    (case rl => k_is)
    (case rk => exact ⟨⟨_, _, rfl, rfl⟩, ⟨⟨_, _, rfl, rfl⟩, ⟨⟨_, _, rfl, rfl⟩, ⟨⟨_, _, rfl, rfl⟩, ⟨⟨_, _, rfl, rfl⟩, ⟨⟨_, _, rfl, rfl⟩, ⟨⟨_, _, rfl, rfl⟩, ⟨⟨_, _, rfl, rfl⟩, ⟨⟨_, _, rfl, rfl⟩, ⟨⟨_, _, rfl, rfl⟩, ⟨⟨_, _, rfl, rfl⟩, trivial⟩⟩⟩⟩⟩⟩⟩⟩⟩⟩⟩)
    (case r0 => k_is)
    (case r1 => k_is)
    (case r2 => k_is)
    (case r3 => k_is)
    (case r4 => k_is)
    (case r5 => k_is)
    (case r6 => k_is)
    (case r7 => k_is)
    (case r8 => k_is)
    (case r9 => k_is)
    (case r10 => k_is)
    (case ia4 => k_is)
    (case ta5 => k_is)
    (case tl5 => k_is)
    (case tv5 => repeat (first | exact L2.Paired.nil | exact Paired.nil | refine Paired.cons ⟨_, rfl⟩ ?_))
    (case ia6 => k_is)
    (case ia7 => k_is)
    (case xg0 => k_is)
    (case xg1 => k_is)
    (case xg2 => k_is)
    (case xg3 => k_is)
    (case xg4 => k_is)
    (case xg5 => k_is)
    (case xg6 => k_is)
    (case xg7 => k_is)
    (case xg8 => k_is)
    (case xgE => k_is)
    (case xe1 => k_is)
    (case xe2 => k_is)
    (case xe3 => k_is)
    (case yn => k_is)
    (case yt => k_is)
    (case xl0 => k_is)
    (case xr0 => first | rfl | decide +kernel)
    (case xsa0 => k_is)
    (case xex0 => k_is)
    (case xty0 => k_is)
    (case xk0 => k_is)
    (case xga0 => k_is)
    (case xgt0 => k_is)
    (case xhd0 => k_is)
    (case xcl0 => k_is)
    (case xmo0 => k_is)
    (case xno0 => k_is)
    (case xi0 => k_is)
    (case xti0 => k_is)
    (case xfl0 => k_is)
    (case xfc0 => k_is)
    (case xfk0 => k_is)
    (case xsE0 => k_is)
    (case xkE0 => first | kit_is | k_is | decide +kernel)
    (case xkt00 => first | kit_is | k_is | decide +kernel)
    (case xkt01 => first | kit_is | k_is | decide +kernel)
    (case xkt02 => first | kit_is | k_is | decide +kernel)
    (case xkt03 => first | kit_is | k_is | decide +kernel)
    (case xkt04 => first | kit_is | k_is | decide +kernel)
    (case xkt05 => first | kit_is | k_is | decide +kernel)
    (case xkt06 => first | kit_is | k_is | decide +kernel)
    (case xkt07 => first | kit_is | k_is | decide +kernel)
    (case xkt08 => first | kit_is | k_is | decide +kernel)
    (case xkv0 => first | kit_is | k_is | decide +kernel)
    (case xl1 => k_is)
    (case xr1 => first | rfl | decide +kernel)
    (case xsa1 => k_is)
    (case xex1 => k_is)
    (case xty1 => k_is)
    (case xk1 => k_is)
    (case xga1 => k_is)
    (case xgt1 => k_is)
    (case xhd1 => k_is)
    (case xcl1 => k_is)
    (case xmo1 => k_is)
    (case xno1 => k_is)
    (case xi1 => k_is)
    (case xti1 => k_is)
    (case xfl1 => k_is)
    (case xfc1 => k_is)
    (case xfk1 => k_is)
    (case xsE1 => k_is)
    (case xkE1 => first | kit_is | k_is | decide +kernel)
    (case xkt10 => first | kit_is | k_is | decide +kernel)
    (case xkt11 => first | kit_is | k_is | decide +kernel)
    (case xkt12 => first | kit_is | k_is | decide +kernel)
    (case xkt13 => first | kit_is | k_is | decide +kernel)
    (case xkt14 => first | kit_is | k_is | decide +kernel)
    (case xkt15 => first | kit_is | k_is | decide +kernel)
    (case xkt16 => first | kit_is | k_is | decide +kernel)
    (case xkt17 => first | kit_is | k_is | decide +kernel)
    (case xkt18 => first | kit_is | k_is | decide +kernel)
    (case xkv1 => first | kit_is | k_is | decide +kernel)
    (case xl5 => k_is)
    (case xr5 => first | rfl | decide +kernel)
    (case xsa5 => k_is)
    (case xex5 => k_is)
    (case xty5 => k_is)
    (case xk5 => k_is)
    (case xga5 => k_is)
    (case xgt5 => k_is)
    (case xhd5 => k_is)
    (case xcl5 => k_is)
    (case xmo5 => k_is)
    (case xno5 => k_is)
    (case xi5 => k_is)
    (case xti5 => k_is)
    (case xfl5 => k_is)
    (case xfc5 => k_is)
    (case xfk5 => k_is)
    (case xsE5 => k_is)
    (case xkE5 => first | kit_is | k_is | decide +kernel)
    (case xkt50 => first | kit_is | k_is | decide +kernel)
    (case xkt51 => first | kit_is | k_is | decide +kernel)
    (case xkt52 => first | kit_is | k_is | decide +kernel)
    (case xkt53 => first | kit_is | k_is | decide +kernel)
    (case xkt54 => first | kit_is | k_is | decide +kernel)
    (case xkt55 => first | kit_is | k_is | decide +kernel)
    (case xkt56 => first | kit_is | k_is | decide +kernel)
    (case xkt57 => first | kit_is | k_is | decide +kernel)
    (case xkt58 => first | kit_is | k_is | decide +kernel)
    (case xkv5 => first | kit_is | k_is | decide +kernel)
    (case fn_comb => k_is)
    (case z0 => k_is)
    (case z1 => k_is)
    (case z2 => k_is)
    (case z3 => k_is)
    (case z4 => k_is)
    (case z5 => k_is)
    (case z6 => k_is)
    (case z7 => k_is)
    (case z8 => k_is)
    (case z9 => k_is)
    (case z10 => k_is)
    (case z11 => k_is)
    (case z12 => k_is)
    (case z13 => k_is)
