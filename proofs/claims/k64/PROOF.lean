import PyProof.Rows.All
import Wide.All
import OpenK.AllK
import Wide.FinOn
import HandS.Base
import HandS.Call
import HandS.Comp
import HandS.Conv
import HandS.Deep
import HandS.Defaults
import HandS.Dict
import HandS.DictComp
import HandS.DictEq
import HandS.Ends
import HandS.Evl
import HandS.Exc
import HandS.ExcField
import HandS.ExcInit
import HandS.ExcIs
import HandS.ExcOwn
import HandS.ExcValue
import HandS.Flow
import HandS.FltList
import HandS.IsInst
import HandS.Iter
import HandS.List
import HandS.More
import HandS.NoneIn
import HandS.RaiseMore
import HandS.SortInts
import HandS.Style
import HandS.Text
import HandS.TryOnly
import HandS.TupAny
import HandS.Walk
import HandS.Wide
import HandS.WideBits
import HandS.Words
import HandS.WordsExc
import HandS.Zip
import KE.GoesEnum
import KE.KDictZip
import KE.KExcIs
import PyProof.CallFns
import PyProof.ReprBulk
import PyProof.ReprLen
import PyProof.ReprRoads
import PyProof.Rows.Digits
import PyProof.Rows.IntBool
import PySem.Challenge.RW_castforms_k64_whole_ranges_by_all_values
set_option Elab.async false
set_option linter.all false
set_option exponentiation.threshold 20000
set_option maxRecDepth 100000
set_option maxHeartbeats 8000000
namespace Cf
open PySem PySem.Spec PyProof.Rows L2

/-! ## defs that know that no repr is under way (guards) -/
structure FnG (P : Program) (w : World) (K : PySem.W.Frag) (mg : Str → Option Value) (base : Heap) (CX : CXT) (k : Nat) (f : Addr)
    (fd : FuncData) (ps : List Str) (sp : Sp) : Prop where
  len : ∀ vs H Q E, sp vs H Q E → vs.length = ps.length
  run : ∀ (A : Around) (outer : List Env) (s : Shared) (H : Hp) (args : Args) (us : List Value) (vs : List V) (Q : VK) (E : XK),
    A.guards = some [] → Room k A → Env0 P w K mg base A outer s H → BindsTo s fd args (ps.zip us) → Vals vs us → sp vs H Q E →
    codeAny (model P w) A (.call (.ref f) args) (CR CX outer P w H s Q E) s
section
variable {P : Program} {w : World} {K : PySem.W.Frag} {mg : Str → Option Value} {base : Heap} {CX : CXT}
theorem FnG.of {k : Nat} {f : Addr} {fd : FuncData} {ps : List Str} {sp : Sp} (F : FnOk P w K mg base CX k f fd ps sp) : FnG P w K mg base CX k f fd ps sp :=
  ⟨F.len, fun A outer s H args us vs Q E _ => F.run A outer s H args us vs Q E⟩
theorem FnG.mono {j k : Nat} {f : Addr} {fd : FuncData} {ps : List Str} {sp : Sp} (F : FnG P w K mg base CX j f fd ps sp) (h : j ≤ k) : FnG P w K mg base CX k f fd ps sp :=
  ⟨F.len, fun A outer s H args us vs Q E hg hr => F.run A outer s H args us vs Q E hg (hr.mono h)⟩
theorem FnG.imp {k : Nat} {f : Addr} {fd : FuncData} {ps : List Str} {sp sp2 : Sp} (F : FnG P w K mg base CX k f fd ps sp)
    (h : ∀ vs H Q E, sp2 vs H Q E → sp vs H Q E) : FnG P w K mg base CX k f fd ps sp2 :=
  ⟨fun vs H Q E q => F.len vs H Q E (h _ _ _ _ q), fun A outer s H args us vs Q E hg hr he hb hv hs => F.run A outer s H args us vs Q E hg hr he hb hv (h _ _ _ _ hs)⟩
end

section
variable {X : Cx} {CX : CXT} {k : Nat} {f : Addr} {fd : FuncData} {ps ks : List Str} {sp : Sp} {dvs : List V} {ds : List Value} {E : XK} {x : Str}
  {p pos : Pos} {e : Expr} {es : List Expr} {kws : List Keyword} {t tk : TA} {g : List Value → List Value → List Value} {gV : List V → List V → List V}
  {pins : List (Addr × Obj)} {σ : L2.St} {H : Hp} {s : Shared} {Q : VK}
/-- how a call's result is handed on -/
theorem ends_call {r : Result} {s' : Shared} (I : Inv X pins σ H s) (hx : Passes CX X E) (hq : CR CX X.stack X.prog X.w H s Q E r s') :
    match r with | .ok (.ret u) => EP X pins σ Q u s' | .ok _ => False | .error er => X.xe er s' := by
  match r, hq with
  | .error er, hq => exact hx pins σ H s er s' I hq
  | .ok (.ret u), hq => exact I.after hq
theorem run_g {us : List Value} {vs : List V} (F : FnG X.prog X.w X.K X.mg X.base CX k f fd ps sp) (hG : X.A.guards = some []) (hr : Room k X.A)
    (hb : Binds X.K fd ps ds) (hd : Vals dvs ds) (hx : Passes CX X E) (I : Inv X pins σ H s) (rv : Vals vs us) (hs : sp (vs ++ dvs) H Q E) :
    wpAny (model X.prog X.w) X.A (call (.ref f) us) (EP X pins σ Q) X.xe s := by
  have rr : Vals (vs ++ dvs) (us ++ ds) := rv.append hd
  have el : (us ++ ds).length = ps.length := (rr.length).symm.trans (F.len _ _ _ _ hs)
  refine wpAny_call (codeAny_mono (F.run X.A X.stack s H ⟨us, []⟩ (us ++ ds) (vs ++ dvs) Q E hG hr I.env0 (hb s us I.kIn el) rr hs) fun r s' q => ?_)
  have q2 := ends_call I hx q
  revert q2
  match r with
  | .error er => exact id
  | .ok (.ret u) => exact id
  | .ok .next => exact False.elim
  | .ok .brk => exact False.elim
  | .ok .cont => exact False.elim
theorem pe_g (F : FnG X.prog X.w X.K X.mg X.base CX k f fd ps sp) (hG : X.A.guards = some []) (hr : Room k X.A) (hg : Gl X x) (hm : X.mg x = some (.ref f))
    (hk : PySem.W.keepIn X.K (.ref f) = true) (hb : Binds X.K fd ps ds) (hd : Vals dvs ds) (hx : Passes CX X E) (ha : PA X (e :: es) t)
    (hdb : (x == ("__debug__" : Str)) = false := by decide)
    (he : starEach (e :: es) X.env = (false, eval e X.env) :: starEach es X.env := by rfl)
    (hpl : (backTo pos (starEach es X.env)).any (·.1) = false := by rfl) : PE X (.Call (.Name x p) (e :: es) [] pos) (tCall sp dvs E t) := by
  constructor
  intro pins s σ H Q I h
  refine wpAny_Call_Name_kw (ld_glob I hg hm ?_ hdb)
  have step := thn (ha.run pos pins s σ H _ I h) (Q' := fun us s1 => X.K.In s1.heap ∧ wpAny (model X.prog X.w) X.A (call (.ref f) us) (EP X pins σ Q) X.xe s1) fun us s1 hh => by
    obtain ⟨vs, H1, I1, r, q⟩ := hh
    exact ⟨I1.kIn, run_g F hG hr hb hd hx I1 r q⟩
  exact PySem.W.callWith_K (h₀ := X.base) I.ok.mod.kin hk step he hpl
theorem pe_g0 (F : FnG X.prog X.w X.K X.mg X.base CX k f fd ps sp) (hG : X.A.guards = some []) (hr : Room k X.A) (hg : Gl X x) (hm : X.mg x = some (.ref f))
    (hk : PySem.W.keepIn X.K (.ref f) = true) (hb : Binds X.K fd ps ds) (hd : Vals dvs ds) (hx : Passes CX X E)
    (hdb : (x == ("__debug__" : Str)) = false := by decide) : PE X (.Call (.Name x p) [] [] pos) (tCall sp dvs E tNil) := by
  constructor
  intro pins s σ H Q I h
  refine wpAny_Call_Name_kw (ld_glob I hg hm ?_ hdb)
  exact PySem.W.callWith_K0 I.kIn hk (run_g (us := []) F hG hr hb hd hx I .nil h)
theorem run_gk {us ws : List Value} {vs zs : List V} (F : FnG X.prog X.w X.K X.mg X.base CX k f fd ps sp) (hG : X.A.guards = some []) (hr : Room k X.A)
    (hb : KBinds X.K fd ps ks g gV) (hx : Passes CX X E) (I : Inv X pins σ H s) (rv : Vals vs us) (rz : Vals zs ws) (hs : sp (gV vs zs) H Q E) :
    wpAny (model X.prog X.w) X.A (call (.ref f) us (ks.zip ws)) (EP X pins σ Q) X.xe s := by
  have rr := hb.rel rv rz
  have el : (g us ws).length = ps.length := (rr.length).symm.trans (F.len _ _ _ _ hs)
  refine wpAny_call (codeAny_mono (F.run X.A X.stack s H ⟨us, ks.zip ws⟩ (g us ws) (gV vs zs) Q E hG hr I.env0 (hb.to s us ws I.kIn el) rr hs) fun r s' q => ?_)
  have q2 := ends_call I hx q
  revert q2
  match r with
  | .error er => exact id
  | .ok (.ret u) => exact id
  | .ok .next => exact False.elim
  | .ok .brk => exact False.elim
  | .ok .cont => exact False.elim
end
end Cf

namespace Cf
open PySem PySem.Spec PyProof.Rows L2

section
variable {X : Cx} {CX : CXT} {k n : Nat} {f : Addr} {fd : FuncData} {ps ks : List Str} {sp : Sp} {E : XK} {x : Str} {p pos : Pos} {e : Expr} {es : List Expr}
  {kws : List Keyword} {t tk : TA} {g : List Value → List Value → List Value} {gV : List V → List V → List V}
/-- keywords alone: a call whose arguments all are named; g orders them -/
def tKw (m : Nat) (sp : Sp) (gV : List V → List V) (E : XK) (tk : TA) : TE := fun σ H Q => tk σ H fun zs H2 => zs.length = m ∧ sp (gV zs) H2 Q E
structure KwB (K : PySem.W.Frag) (fd : FuncData) (ps ks : List Str) (g : List Value → List Value) (gV : List V → List V) : Prop where
  to : ∀ (s : Shared) (ws : List Value), K.In s.heap → ws.length = ks.length → BindsTo s fd ⟨[], ks.zip ws⟩ (ps.zip (g ws))
  rel : ∀ {zs : List V} {ws : List Value}, zs.length = ks.length → Vals zs ws → Vals (gV zs) (g ws)
variable {g1 : List Value → List Value} {gV1 : List V → List V}
theorem pe_gkw (F : FnG X.prog X.w X.K X.mg X.base CX k f fd ps sp) (hG : X.A.guards = some []) (hr : Room k X.A) (hg : Gl X x) (hm : X.mg x = some (.ref f))
    (hk : PySem.W.keepIn X.K (.ref f) = true) (hb : KwB X.K fd ps ks g1 gV1) (hx : Passes CX X E) (hkw : PK X kws tk)
    (hall : (backToKw pos (keywordEach kws X.env)).all (·.1.isSome) = true := by rfl)
    (hks : (backToKw pos (keywordEach kws X.env)).filterMap (·.1) = ks := by rfl)
    (hdb : (x == ("__debug__" : Str)) = false := by decide)
    (hpl : ((backTo pos (starEach [] X.env)).any (·.1) || (backToKw pos (keywordEach kws X.env)).any (·.1.isNone)) = false := by rfl) :
    PE X (.Call (.Name x p) [] kws pos) (tKw ks.length sp gV1 E tk) := by
  constructor
  intro pins s σ H Q I h
  refine wpAny_Call_Name_kw (ld_glob I hg hm ?_ hdb)
  refine PySem.W.callWith_KW0 (h₀ := X.base) I.ok.mod.kin hk hall (thn (hkw.run pos pins s σ H _ I h) fun ws s2 hh => ?_) hpl
  obtain ⟨zs, H2, I2, rz, l2, q2⟩ := hh
  refine ⟨I2.kIn, ?_⟩
  rw [hks]
  have lw : ws.length = ks.length := rz.length.symm.trans l2
  have rr := hb.rel l2 rz
  refine wpAny_call (codeAny_mono (F.run X.A X.stack s2 H2 ⟨[], ks.zip ws⟩ (g1 ws) (gV1 zs) Q E hG hr I2.env0 (hb.to s2 ws I2.kIn lw) rr q2) fun r s' q => ?_)
  have q3 := ends_call I2 hx q
  revert q3
  match r with
  | .error er => exact id
  | .ok (.ret u) => exact id
  | .ok .next => exact False.elim
  | .ok .brk => exact False.elim
  | .ok .cont => exact False.elim
end

/-! ## repr of data -/
section
variable {X : Cx}
def rRepr (K : PySem.W.Frag) : List V → Hp → VK → Prop := fun xs H Q => ∃ (a : Addr) (d : PyData), xs = [.ref a] ∧ Dp K H (.ref a) d ∧ d.showable = true ∧ d.hasDict = false ∧
  d.shown.length ≤ sizeLine ∧ d.depth ≤ 60 ∧ Q (.str d.shown) H
theorem call_repr (hG : X.A.guards = some []) (hu : X.A.units + 64 < cLine) : CallR X (.builtin "repr") (rRepr X.K) := by
  intro pins s σ H xs us Q I r h
  obtain ⟨a, d, rfl, hd, hs, hn, hz, hp, q⟩ := h
  obtain ⟨u, rfl, rx⟩ := vals1 r
  obtain ⟨as, rd⟩ := Dp.reads I d _ u hd rx
  obtain rfl : u = Value.ref a := rx
  refine repr_of_reads' rd hs (fun z => by rw [hn] at z; cases z) hG (by omega) (fun b o e => e) (fun h' u tk kp => ?_) hz
  exact ⟨.str d.shown, H, I.kept kp, ⟨u, rfl⟩, q⟩
/-- a ** b of great numbers -/
def CPowW (i j : Int) : Prop := 0 ≤ j ∧ j ≤ 100 ∧ i.natAbs.log2 < 100000
theorem op_powW : OpR X (binaryOp .Pow) (rI CPowW fun i j => .int (i ^ j.toNat)) := opI fun i j _ _ _ _ _ hc q => by
  obtain ⟨h0, h1, h2⟩ := hc
  refine pow_int h0 ?_ q
  have hb : Builtin.Int.intBits i ≤ i.natAbs.log2 + 1 := by
    unfold Builtin.Int.intBits
    split <;> omega
  have h3 : (Builtin.Int.intBits i : Int) ≤ 100000 := by omega
  have h4 : (Builtin.Int.intBits i : Int) * j ≤ 100000 * 100 := Int.mul_le_mul h3 h1 h0 (by decide)
  have h5 : (100000 * 100 : Int) ≤ 2 ^ 27 := by decide
  omega
end

/-! ## enumerate of a tuple -/
set_option maxHeartbeats 4000000 in
theorem meets_enum_tup (v : Addr) (items : Array Value) :
    Meets (Builtin.«enumerate.__new__» ⟨[.type "enumerate", .ref v], []⟩) (fun _ R s => s.heap.IsTuple v items ∧
      R (.ok (.ret (.ref (s.heap.push { cls := .type "tuple_iterator", data := .fields #[.ref v, .int 0 0] }).objs.size)))
        { s with heap := (s.heap.push { cls := .type "tuple_iterator", data := .fields #[.ref v, .int 0 0] }).push { cls := .type "enumerate", data := .fields #[.none, .bool false, .ref s.heap.objs.size, rawInt 0, .none, .none] } }) :=
  .of_wp fun prog w A R s h => by
    obtain ⟨hp, gg, dd, tk, os⟩ := s
    obtain ⟨h1, h⟩ := h
    have hsub := sub_enumerate
    have q1 : ∀ {A2 : Around} {E2 : Value → Shared → Prop} {Q2 : Value → Shared → Prop}, Q2 (.ref hp.objs.size) ⟨hp.push { cls := .type "tuple_iterator", data := .fields #[.ref v, .int 0 0] }, gg, dd, tk, os⟩ →
        wpAny (model prog w) A2 (pyIter (.ref v)) Q2 E2 ⟨hp, gg, dd, tk, os⟩ := fun q => wpAny_pyIter_tuple (s := ⟨hp, gg, dd, tk, os⟩) h1 q
    wp_walk using q1
    refine wpAny_stack_any fun st => wpAny_pure ?_
    split
    · rename_i c _ _ _ _ _
      cases (c == Value.type "enumerate")
      · wp_walk using q1
        exact ⟨_, rfl, h⟩
      · wp_walk using q1
        exact ⟨_, rfl, h⟩
    · wp_walk using q1
      exact ⟨_, rfl, h⟩
theorem call_enum_tup {prog : Program} {w : World} {A : Around} {E : Value → Shared → Prop} {s : Shared} {l : Addr} {items : Array Value} {Q : Value → Shared → Prop} (hL : s.heap.IsTuple l items)
    (h : ∀ h', IsEnum h' (s.heap.objs.size + 1) s.heap.objs.size 0 .none → h'.IsTupleIter s.heap.objs.size l 0 → h'.objs.size = s.heap.objs.size + 2 →
      (∀ b o, s.heap.get? b = some o → h'.get? b = some o) → Q (.ref (s.heap.objs.size + 1)) { s with heap := h' }) :
    wpAny (model prog w) A (call (.type "enumerate") [.ref l]) Q E s := by
  refine callType_new F.called_enumerate (by decide) (F.typeCall_enumerate_1 _) (F.newCall_enumerate_1 _) (fun obj => F.args_object_init_2 obj _) F.entry_enumerate_new
    (meets_enum_tup l items) ⟨hL, ?_⟩
  have z1 : (s.heap.push { cls := .type "tuple_iterator", data := .fields #[.ref l, .int 0 0] }).objs.size = s.heap.objs.size + 1 := Heap.size_push ..
  show _ ∧ _
  rw [z1]
  have z2 : IsEnum ((s.heap.push { cls := .type "tuple_iterator", data := .fields #[.ref l, .int 0 0] }).push
      { cls := .type "enumerate", data := .fields #[.none, .bool false, .ref s.heap.objs.size, rawInt 0, .none, .none] }) (s.heap.objs.size + 1) s.heap.objs.size 0 .none := by
    have z3 := Heap.get?_push_size (s.heap.push { cls := .type "tuple_iterator", data := .fields #[.ref l, .int 0 0] })
      (o := { cls := .type "enumerate", data := .fields #[.none, .bool false, .ref s.heap.objs.size, rawInt 0, .none, .none] }) rfl
    rw [z1] at z3
    exact z3
  refine ⟨⟨_, z2, rfl⟩, h _ z2 ⟨_, Heap.get?_push_of_some _ (Heap.get?_push_size _ rfl), rfl, rfl⟩ ?_ fun b o q => Heap.get?_push_of_some _ (Heap.get?_push_of_some _ q)⟩
  rw [Heap.size_push, z1]
end Cf

namespace Cf
open PySem PySem.Spec PyProof.Rows L2

/-- what enumerate of the tuple at a gives: each item in a new pair -/
def IteT (K : PySem.W.Frag) (a : Addr) : It :=
  ⟨fun i H => ∃ (xs : List V) (x : V), SqT K H a xs ∧ xs[i]? = some x,
    fun i H v H' => ∃ T x, v = .ref T ∧ H T = none ∧ H' = upd H T (.tup [.int (i : Nat), x]) ∧ ∀ xs, SqT K H a xs → xs[i]? = some x,
    fun i H => ∃ xs : List V, SqT K H a xs ∧ xs.length = i⟩
theorem turn_enumT {P : Program} {w : World} {K : PySem.W.Frag} {elts : List Expr} {kk : Nat} {tpos : Pos} (a e it : Addr) :
    Turn P w K (.Tuple elts kk tpos) (IteT K a) [e, it] e (fun i h => (∃ old, IsEnum h e it ((i : Nat) : Int) old) ∧ h.IsTupleIter it a i ∧ e ≠ it ∧ a ≠ it ∧ a ≠ e) where
  mem := by simp
  obj := fun i h st b hb => by
    obtain ⟨⟨old, he⟩, ⟨o, ho, hc, hd⟩, _⟩ := st
    have e' : b = e ∨ b = it := by simpa using hb
    rcases e' with z | z
    · rw [z]
      exact ⟨_, he, fun v q => nomatch q⟩
    · rw [z]
      exact ⟨o, ho, fun v q => by rw [hd] at q; cases q⟩
  keep := fun i h h' st kp => by
    obtain ⟨⟨old, he⟩, hi, hne⟩ := st
    exact ⟨⟨old, kp e (by simp) _ he⟩, hi.at fun o q => kp it (by simp) o q, hne⟩
  item := by
    intro X hP hw hK hc i pins s σ H E I hf st hg
    subst hP hw hK
    obtain ⟨⟨old, he⟩, hit, hne, hai, hae⟩ := st
    obtain ⟨xs, x, hq, hx⟩ := hg
    obtain ⟨its, rv, p, hz⟩ := I.tuple hq
    obtain ⟨u, hu, ru⟩ := rv.get hx
    have hel : e < s.heap.objs.size := Heap.lt_size he
    have hil : it < s.heap.objs.size := by
      obtain ⟨_, q, _⟩ := hit
      exact Heap.lt_size q
    have hlt : i < its.toArray.size := by
      have := (List.getElem?_eq_some_iff.mp hu).1
      simpa using this
    refine wpAny_pyNext_enum_itemD (Draws.tuple (prog := X.prog) (w := X.w) (A := X.A.in1) (I.ok.hd hc) it a hai its.toArray) he ⟨hit, p⟩ hlt hne (by
      intro z
      rcases List.mem_cons.mp z with z | z
      · exact hne z
      · exact hae (List.mem_singleton.mp z).symm) fun y h' tk hy ho hst hT hsz hk => ?_
    have ey : y = u := by
      have hy2 : its[i]? = some y := by simpa using hy
      exact Option.some.inj (hy2.symm.trans hu)
    subst ey
    refine ⟨_, rfl, wpAny_letOwnedTupleGo_enum (s := { s with heap := h', toks := tk + 1 }) ho fun h'' he' sb => ?_⟩
    have hT2 : h''.get? s.heap.objs.size = some { cls := .type "tuple", data := .seq #[.int i tk, y] } := (sb.2 _ (Nat.ne_of_gt hel)).trans hT
    have new : ObjOk X.prog X.w (upd H s.heap.objs.size (.tup [.int (i : Nat), x])) h'' s.heap.objs.size (.tup [.int (i : Nat), x]) :=
      ⟨by show 2 ≤ sizeLine; decide, [.int i tk, y], .cons ⟨_, rfl⟩ (.cons ru .nil), ⟨_, hT2, rfl, _, rfl⟩⟩
    have I1 : Inv X pins σ (upd H s.heap.objs.size (.tup [.int (i : Nat), x])) { s with heap := h'', toks := tk + 1 } :=
      I.turnedNew (ch := [e, it]) (fun b ob hb q => (sb.2 b (fun z => hb (by simp [z]))).trans (hk b ob (fun z => hb (by simp [z])) (fun z => hb (by simp [z])) q)) hf (Nat.le_refl _) new
    refine ⟨.ref s.heap.objs.size, _, I1, rfl, ⟨_, x, rfl, I.hok.fresh (Nat.le_refl _), rfl, fun ys hy => ?_⟩, ⟨⟨y, ?_⟩, hst.1.at fun o q => (sb.2 it (Ne.symm hne)).trans q, hne, hai, hae⟩, fun b hb => ?_⟩
    · rw [I.tuple_inj hy hq]
      exact hx
    · have e1 : ((i + 1 : Nat) : Int) = (i : Int) + 1 := by omega
      rw [e1]
      simpa using he'
    · have hb' : b < s.heap.objs.size := by
        have e' : b = e ∨ b = it := by simpa using hb
        rcases e' with z | z
        · rw [z]; exact hel
        · rw [z]; exact hil
      rw [upd_ne (Nat.ne_of_lt hb')]
      exact (hf b hb).1
  done := by
    intro X hP hw hK hc i pins s σ H E I hf st hg
    subst hP hw hK
    obtain ⟨⟨old, he⟩, hit, hne, hai, hae⟩ := st
    obtain ⟨xs, hq, hx⟩ := hg
    obtain ⟨its, rv, p, hz⟩ := I.tuple hq
    obtain ⟨f0, f1, f2, f3, f4, f5⟩ := hf it (by simp)
    have hl := rv.length
    have hn : its.toArray.size = i := by
      rw [List.size_toArray]
      omega
    subst hn
    refine wpAny_pyNext_enum_endD (Draws.tuple (prog := X.prog) (w := X.w) (A := X.A.in1) (I.ok.hd hc) it a hai its.toArray) he ⟨hit, p⟩ fun h' eb => ?_
    exact ⟨rfl, I.turned (t' := s.toks) (fun b o hb q => eb b o hb q) f0 f1 f3 f4 f5⟩
  self := fun A i s Q E st h => by
    obtain ⟨⟨_, he⟩, _⟩ := st
    exact wpAny_pyIter_enum he h
def iEnumT (K : PySem.W.Frag) (ta : TA) : TI := fun σ H R => ta σ H fun vs H1 => ∃ a xs, vs = [.ref a] ∧ SqT K H1 a xs ∧ R (IteT K a) H1
theorem pi_enumT {X : Cx} {e : Expr} {ta : TA} {p pos tpos : Pos} {elts : List Expr} {kk : Nat} (hg : Gl X "enumerate") (hm : X.mg "enumerate" = none) (ha : PA X [e] ta)
    (hs : starEach [e] X.env = [(false, eval e X.env)] := by rfl) : PI X (.Tuple elts kk tpos) (.Call (.Name "enumerate" p) [e] [] pos) (iEnumT X.K ta) := by
  constructor
  intro pins s σ H R I h
  refine Call_ (ld_blt I hg hm boot_enumerate (PyProof.Rows.callWith_type1 (thn (ha.run pos pins s σ H _ I h) fun us s1 hh => ?_) hs rfl))
  obtain ⟨vs, H1, I1, r1, a, xs, ex, hq, q⟩ := hh
  subst ex
  cases r1 with
  | cons r rr =>
    cases rr
    cases r
    obtain ⟨its, rv, pt, hz⟩ := I1.tuple hq
    have ha1 : a < s1.heap.objs.size := pt.lt
    refine call_enum_tup pt fun h' he hit hsz hk => wpAny_pyIter_enum he ?_
    have I2 : Inv X pins σ H1 { s1 with heap := h' } := I1.kept (t' := s1.toks) hk
    refine ⟨s1.heap.objs.size + 1, [s1.heap.objs.size + 1, s1.heap.objs.size], _, _, H1, rfl, I2, turn_enumT a (s1.heap.objs.size + 1) s1.heap.objs.size,
      ⟨⟨.none, he⟩, hit, Nat.succ_ne_self _, Nat.ne_of_lt ha1, Nat.ne_of_lt (Nat.lt_succ_of_lt ha1)⟩, fun b hb => ?_, q⟩
    have e' : b = s1.heap.objs.size + 1 ∨ b = s1.heap.objs.size := by simpa using hb
    have hle : s1.heap.objs.size ≤ b := by
      rcases e' with z | z
      · rw [z]
        exact Nat.le_add_right _ _
      · rw [z]
        exact Nat.le_refl _
    exact I1.fpOk hle (I1.hok.fresh hle)

/-! ## a def's body keeps its promise, no repr under way -/
theorem fng_of {CX : CXT} {P : Program} {w : World} {K : PySem.W.Frag} {mg : Str → Option Value} {base : Heap} {k : Nat} {f : Addr} {name qual : Str} {params : Arguments} {body : List Stmt} {scope : Scope}
    {dV kV doc pm cdv ct oc : Value} {an od : Option Addr} {osl : Array (Option Value)} {N ps : List Str} {sp : Sp}
    (lk : K.lookup f = some ⟨oc, od, .func (PySem.W.fnOf name qual params body scope dV kV doc pm an cdv ct), osl⟩) (hcd : PySem.W.codeIn K cdv qual = true) (S : FnScope N ps scope)
    (len : ∀ vs H Q E, sp vs H Q E → vs.length = ps.length)
    (hbody : ∀ (A : Around) (outer : List Env) (s : Shared) (H : Hp) (vs : List V) (Q : VK) (E : XK), A.guards = some [] → Room k (A.deeper (envOfC qual scope s.heap.objs.size f cdv)) → sp vs H Q E →
      ∃ t, PSs (cxOf CX P w K mg base N qual scope f cdv A outer s H E) body t ∧ t { nx := fun _ H' => Q .non H', rt := Q } (start N vs) H) :
    FnG P w K mg base CX (k + 1) f (PySem.W.fnOf name qual params body scope dV kV doc pm an cdv ct) ps sp := by
  refine ⟨len, ?_⟩
  intro A outer s H args us vs Q E hG hr e0 hb rv hsp
  have kept : ∀ b o, base.get? b = some o → s.heap.get? b = some o := fun b o q => (e0.bs b o q).1
  have inK : K.In s.heap := e0.mod.kin.keeps kept
  have lim : s.heap.NoLimit := e0.mod.nolimit.keeps kept
  have kinds : ∀ y ∈ ps.zip us, scope.names.lookup y.1 = some .local ∨ (scope.names.lookup y.1 = some .cell ∧ ((cellsFrom (s.heap.objs.size + 1) scope.names []).lookup y.1).isSome = true) := by
    intro y hy
    have hp := (List.of_mem_zip (show (y.1, y.2) ∈ ps.zip us from hy)).1
    exact (S.par y.1 hp).imp id fun q => ⟨q, PySem.W.cellsFrom_some _ _ _ (.inl q)⟩
  refine codeAny_call_function hr.depth (inK _ _ lk) rfl S.co S.gen rfl (PySem.W.codeRec_of inK hcd) (hb _ _ _ _ ?_)
  refine wpAny_newFunctionEnv_cells S.kind kinds fun env henv s1 x => ?_
  subst henv
  obtain ⟨t, ht, hq⟩ := hbody A outer s H vs Q E hG (hr.deeper _) hsp
  have I : Inv (cxOf CX P w K mg base N qual scope f cdv A outer s H E) [] (start N vs) H s1 := inv_start S hr.hd e0 (len _ _ _ _ hsp) rv x
  refine ⟨lim.keeps x.toInCall.keep, codeAny_func (wpAny_mono (ht.run [] s1 (start N vs) H _ I hq) (fun fl s' hs => ?_) fun e s' hs => hs)⟩
  match fl, hs with
  | .ret u, ⟨v, σ', H', J, r, q⟩ => exact ⟨v, H', J.os, J.bare, J.base, J.hok, r, q⟩
  | .next, ⟨σ', H', J, q⟩ => exact ⟨V.non, H', J.os, J.bare, J.base, J.hok, (rfl : RelV .non Value.none), q⟩
  | .brk, ⟨_, _, _, q⟩ => exact False.elim q
  | .cont, ⟨_, _, _, q⟩ => exact False.elim q
section
variable {P : Program} {w : World} {K : PySem.W.Frag} {mg : Str → Option Value} {base : Heap}
theorem fun_okG {CX : CXT} {x qual : Str} {st : Stmt} {f : Addr} {fd : FuncData} {N ps : List Str} {k : Nat} {sp : Sp} (F : Fun K x qual st f fd) (S : FnScope N ps (defScope st)) (len : ∀ vs H Q E, sp vs H Q E → vs.length = ps.length)
    (hbody : ∀ (cdv : Value) (A : Around) (outer : List Env) (s : Shared) (H : Hp) (vs : List V) (Q : VK) (E : XK), A.guards = some [] → Room k (A.deeper (envOfC qual (defScope st) s.heap.objs.size f cdv)) → sp vs H Q E →
      ∃ t, PSs (cxOf CX P w K mg base N qual (defScope st) f cdv A outer s H E) (defBody st) t ∧ t { nx := fun _ H' => Q .non H', rt := Q } (start N vs) H) : FnG P w K mg base CX (k + 1) f fd ps sp := by
  obtain ⟨oc, od, kV, doc, pm, an, cdv, ct, osl, rfl, lk, hcd⟩ := F.ex
  exact fng_of lk hcd S len fun A outer s H vs Q E hG hr hsp => hbody cdv A outer s H vs Q E hG hr hsp
theorem fun_kw {x qual : Str} {st : Stmt} {f : Addr} {fd : FuncData} {ps ks : List Str} {g : List Value → List Value} {gV : List V → List V} (F : Fun K x qual st f fd)
    (h : ∀ (kV doc pm : Value) (an : Option Addr) (cdv ct : Value) (ws : List Value), ws.length = ks.length → bindArgs (PySem.W.fnOf x qual (defArgs st) (defBody st) (defScope st) .none kV doc pm an cdv ct) ⟨[], ks.zip ws⟩ = pure (ps.zip (g ws)))
    (rel : ∀ {zs : List V} {ws : List Value}, zs.length = ks.length → Vals zs ws → Vals (gV zs) (g ws)) : KwB K fd ps ks g gV := by
  obtain ⟨oc, od, kV, doc, pm, an, cdv, ct, osl, rfl, lk, hcd⟩ := F.ex
  exact ⟨fun s ws _ hl => .of_eq (h kV doc pm an cdv ct ws hl), rel⟩
end
end Cf

namespace Cf
open PySem PySem.Spec PyProof.Rows L2

/-- from an abstract heap in which nothing but the script may be tracked -/
theorem lawG_core {P : Program} {w : World} {K : PySem.W.Frag} {mg mb : Str → Option Value} {CX : CXT} {k : Nat} {fa a : Addr} {fd : FuncData} {x : Str} {sp : Sp} {s1 : Shared} {vs : List Value}
    (KX : K.In s1.heap) (hns : s1.heap.Ns mainGlobals mg) (hb : s1.heap.Ns builtinsNs mb) (hbb : ∀ x : Str, x ≠ "__name__" → mb x = bootBuiltins x) (hlim : s1.heap.NoLimit) (hg : s1.gens = #[])
    (ha : s1.heap.get? a = some { cls := .type "list", data := .seq vs.toArray }) (hr : Room k callerA)
    (F : ∀ base : Heap, K.In base → base.Ns mainGlobals mg → FnG P w K mg base CX k fa fd [x] sp) (hbind : ∀ (s : Shared) (u : Value), BindsTo s fd ⟨[u], []⟩ [(x, u)])
    (hCX : ∀ H e s', CX [] H s1 (fun _ _ _ => False) e s' → False) (H : Hp) (hO : Only H) (hok : HOk P w H s1.heap) (hA : ∀ b, H b ≠ none → b = a) (hK : H a ≠ none → K.lookup a = none)
    (hsp : sp [.ref a] H (fun v _ => v = .bl true) fun _ _ _ => False) :
    codeAny (model P w) callerA (.call (.ref fa) ⟨[.ref a], []⟩) (fun r s' => r = .ok (.ret (.bool true)) ∧ OldK s1.heap s'.heap ∧ s'.os = s1.os ∧ AllBare s'.gens) s1 := by
  have noDict : ∀ (b : Addr) (o : Obj) (es : Array DictEntry) (ep : Nat), s1.heap.get? b = some o → o.data = .dict es ep → H b = none := by
    intro b o es ep q1 q2
    by_cases hb0 : H b = none
    · exact hb0
    · have e1 := hA b hb0
      subst e1
      rw [ha] at q1
      cases q1
      cases q2
  have ns2 : ∀ (b : Addr) (m : Str → Option Value), s1.heap.Ns b m → (hidT s1.heap H).Ns b m := by
    intro b m hm
    obtain ⟨o, es, ep, q1, q2, q3⟩ := hm
    exact ⟨o, es, ep, hidT_get q1 (noDict b o es ep q1 q2), q2, q3⟩
  have inK : K.In (hidT s1.heap H) := by
    intro b o q
    refine hidT_get (KX b o q) ?_
    by_cases hb0 : H b = none
    · exact hb0
    · have e1 := hA b hb0
      subst e1
      rw [hK hb0] at q
      cases q
  have hlim2 : (hidT s1.heap H).NoLimit := by
    obtain ⟨mc, q1, q2⟩ := hlim
    exact ⟨mc, ns2 _ _ q1, q2⟩
  have e0 : Env0 P w K mg (hidT s1.heap H) callerA [] s1 H :=
    ⟨rfl, ⟨inK, ns2 _ _ hns, ⟨mb, ns2 _ _ hb, hbb⟩, hlim2⟩, fun b o q => of_hidT q, Nat.le_of_eq (hidT_size _ _), trivial, fun b q => (List.not_mem_nil q).elim, hok, .of_eq hg⟩
  have run := (F _ inK (ns2 _ _ hns)).run callerA [] s1 H ⟨[.ref a], []⟩ [.ref a] [.ref a] _ _ rfl hr e0 (hbind s1 (.ref a)) (.cons rfl .nil) hsp
  refine codeAny_mono run fun r s' q => ?_
  match r, q with
  | .error e, q => exact (hCX H e s' q).elim
  | .ok (.ret u), q =>
    obtain ⟨v, H2, os, bare, un, hok2, rel, ev⟩ := q
    have ev2 : v = .bl true := ev
    subst ev2
    obtain rfl : u = Value.bool true := rel
    refine ⟨rfl, OldK.of_keep fun b o q1 => ?_, os, bare⟩
    rcases hO b with z | ⟨ob, xs, z⟩
    · exact un.keep b o q1 z (fun q2 => (List.not_mem_nil q2).elim) (fun q2 => (List.not_mem_nil q2).elim)
    · obtain ⟨g1, _⟩ := hok b _ z
      obtain ⟨g2, _⟩ := hok2 b _ (un.frzs b ob _ z)
      rw [q1] at g1
      cases g1
      exact g2

theorem lawG {P : Program} {w : World} {K : PySem.W.Frag} {mg mb : Str → Option Value} {CX : CXT} {k : Nat} {fa a : Addr} {fd : FuncData} {x : Str} {sp : Sp} {s1 : Shared} {vs : List Value} {ns : List Int}
    (KX : K.In s1.heap) (hns : s1.heap.Ns mainGlobals mg) (hb : s1.heap.Ns builtinsNs mb) (hbb : ∀ x : Str, x ≠ "__name__" → mb x = bootBuiltins x) (hlim : s1.heap.NoLimit) (hg : s1.gens = #[])
    (ha : s1.heap.get? a = some { cls := .type "list", data := .seq vs.toArray }) (hi : IntsAre vs ns) (hl : ns.length ≤ sizeLine) (hr : Room k callerA)
    (F : ∀ base : Heap, K.In base → base.Ns mainGlobals mg → FnG P w K mg base CX k fa fd [x] sp) (hbind : ∀ (s : Shared) (u : Value), BindsTo s fd ⟨[u], []⟩ [(x, u)])
    (hsp : ∀ H : Hp, Only H → SqL K H a (ns.map V.int) → sp [.ref a] H (fun v _ => v = .bl true) fun _ _ _ => False)
    (hCX : ∀ H e s', CX [] H s1 (fun _ _ _ => False) e s' → False) :
    codeAny (model P w) callerA (.call (.ref fa) ⟨[.ref a], []⟩) (fun r s' => r = .ok (.ret (.bool true)) ∧ OldK s1.heap s'.heap ∧ s'.os = s1.os ∧ AllBare s'.gens) s1 := by
  have vr := vals_ints hi
  have vl := hi.length
  by_cases hk : K.lookup a = none
  · have hat : ∀ u, (fun b => if b = a then some (HO.frz { cls := .type "list", data := .seq vs.toArray } (.lst (ns.map V.int))) else none) a = some u → u = HO.frz { cls := .type "list", data := .seq vs.toArray } (.lst (ns.map V.int)) := by
      intro u q
      have q2 := (if_pos rfl).symm.trans q
      cases q2
      rfl
    have hO : Only (fun b => if b = a then some (HO.frz { cls := .type "list", data := .seq vs.toArray } (.lst (ns.map V.int))) else none) := by
      intro b
      by_cases e : b = a
      · exact .inr ⟨_, _, if_pos e⟩
      · exact .inl (if_neg e)
    refine lawG_core KX hns hb hbb hlim hg ha hr F hbind hCX _ hO (fun b u q => ?_) (fun b q => ?_) (fun _ => hk) (hsp _ hO (.inl (.inr ⟨_, if_pos rfl⟩)))
    · by_cases e : b = a
      · subst e
        obtain rfl := hat u q
        exact ⟨ha, by rw [List.length_map]; exact hl, vs, _, vr, ha⟩
      · have q2 := (if_neg e).symm.trans q
        cases q2
    · by_cases e : b = a
      · exact e
      · exact absurd (if_neg e) q
  · obtain ⟨o, ho⟩ := Option.ne_none_iff_exists'.mp hk
    have q := KX a o ho
    rw [ha] at q
    cases q
    refine lawG_core KX hns hb hbb hlim hg ha hr F hbind hCX (fun _ => none) (fun _ => .inl rfl) (fun b u z => ?_) (fun b z => absurd rfl z) (fun z => absurd rfl z)
      (hsp _ (fun _ => .inl rfl) (.inr ⟨_, vs.toArray, _, ho, rfl, rfl, rfl, by rw [List.size_toArray, vl]; exact hl, by simpa using vr⟩))
    have z2 : (none : Option HO) = some u := z
    cases z2

theorem walkG {l : PySem.W.OpenLaw} {n k : Nat} {q : Program} {loose : List Str} {XP : (Str → Option Value) → Heap → Prop} {YP : World → Heap → Prop} {d : DefRec} {K : Params → PySem.W.Frag} {CX : World → CXT} {sp : World → Sp} {x : Str}
    (hn : l.most = some n) (hn2 : n ≤ sizeLine) (hdf : d.params.defaults = []) (hr : Room k callerA)
    (hY : ∀ (w : World) (h : Heap), YP w h → (K w.params).In h)
    (F : ∀ (w : World) (mg : Str → Option Value) (fa : Addr) (h : Heap), (K w.params).In h → h.Ns mainGlobals mg → mg d.name = some (.ref fa) →
      ∃ fd : FuncData, (∀ (s : Shared) (u : Value), BindsTo s fd ⟨[u], []⟩ [(x, u)]) ∧
        ∀ base : Heap, (K w.params).In base → base.Ns mainGlobals mg → FnG l.prog w (K w.params) mg base (CX w) k fa fd [x] (sp w))
    (hsp : ∀ (w : World) (H : Hp) (a : Addr) (ns : List Int), ns.length ≤ n → Only H → SqL (K w.params) H a (ns.map V.int) → sp w [.ref a] H (fun v _ => v = .bl true) fun _ _ _ => False)
    (hCX : ∀ (w : World) (H : Hp) (s : Shared) (e : Value) (s' : Shared), CX w [] H s (fun _ _ _ => False) e s' → False) :
    PySem.W.WalkO q loose XP YP l.row.toRowW d [] (fun f vs => PySem.call f vs) := by
  refine Att.attach_call hn hdf ?_
  intro w s0 s1 mg mb fa o pm cd doc a vs ns G Y ho hd hcd hmg hobj hints hlen hg
  have inK := hY w _ Y
  obtain ⟨fd, hb, hF⟩ := F w mg fa _ inK G.T.g hmg
  exact lawG inK G.T.g G.T.b G.T.builtins G.T.nolimit hg hobj hints (Nat.le_trans hlen hn2) hr hF hb (fun H hO hS => hsp w H a ns hlen hO hS) fun H e s' => hCX w H s1 e s'
end Cf

namespace Cf
open PySem PySem.Spec PyProof.Rows L2 Evl

/-! ## a def that callers know -/
structure Df (K : PySem.W.Frag) (mg : Str → Option Value) (x : Str) (st : Stmt) (ps : List Str) (f : Addr) (fd : FuncData) : Prop where
  F : Fun K x x st f fd
  g : mg x = some (.ref f)
  b : Binds K fd ps []
def Cl (P : Program) (w : World) (K : PySem.W.Frag) (mg : Str → Option Value) (base : Heap) (k : Nat) (x : Str) (ps : List Str) (sp : Sp) : Prop :=
  ∃ (f : Addr) (fd : FuncData), FnG P w K mg base CX0 k f fd ps sp ∧ mg x = some (.ref f) ∧ PySem.W.keepIn K (.ref f) = true ∧ Binds K fd ps []
section
variable {P : Program} {w : World} {K : PySem.W.Frag} {mg : Str → Option Value} {base : Heap}
theorem Cl.mk {k : Nat} {x : Str} {st : Stmt} {ps : List Str} {sp : Sp} {f : Addr} {fd : FuncData} (D : Df K mg x st ps f fd) (F : FnG P w K mg base CX0 k f fd ps sp) : Cl P w K mg base k x ps sp :=
  ⟨f, fd, F, D.g, D.F.kp, D.b⟩
theorem Cl.imp {k : Nat} {x : Str} {ps : List Str} {sp sp2 : Sp} (C : Cl P w K mg base k x ps sp) (h : ∀ vs H Q E, sp2 vs H Q E → sp vs H Q E) : Cl P w K mg base k x ps sp2 := by
  obtain ⟨f, fd, F, q⟩ := C
  exact ⟨f, fd, F.imp h, q⟩
/-- a body that nothing leaves -/
theorem df_ok {x : Str} {st : Stmt} {f : Addr} {fd : FuncData} {N ps : List Str} {k : Nat} {sp : Sp} (D : Df K mg x st ps f fd) (S : FnScope N ps (defScope st)) (len : ∀ vs H Q E, sp vs H Q E → vs.length = ps.length)
    (hbody : ∀ (cdv : Value) (A : Around) (outer : List Env) (s : Shared) (H : Hp) (vs : List V) (Q : VK) (E : XK), A.guards = some [] → Room k (A.deeper (envOfC x (defScope st) s.heap.objs.size f cdv)) → sp vs H Q E →
      ∃ t, PSs (cxOf CX0 P w K mg base N x (defScope st) f cdv A outer s H E).nox (defBody st) t ∧ t { nx := fun _ H' => Q .non H', rt := Q } (start N vs) H) : FnG P w K mg base CX0 (k + 1) f fd ps sp :=
  fun_okG D.F S len fun cdv A outer s H vs Q E hG hr hs => by
    obtain ⟨t, h, q⟩ := hbody cdv A outer s H vs Q E hG hr hs
    exact ⟨t, h.nox, q⟩
end
section
variable {X : Cx} {j k : Nat} {ps ks : List Str} {sp : Sp} {x : Str} {p pos : Pos} {e : Expr} {es : List Expr} {kws : List Keyword} {t tk : TA} {f : Addr} {fd : FuncData}
theorem pe_cl (C : Cl X.prog X.w X.K X.mg X.base j x ps sp) (hG : X.A.guards = some []) (hr : Room k X.A) (hg : Gl X x) (ha : PA X (e :: es) t) (hjk : j ≤ k := by decide)
    (hdb : (x == ("__debug__" : Str)) = false := by decide)
    (he : starEach (e :: es) X.env = (false, eval e X.env) :: starEach es X.env := by rfl)
    (hpl : (backTo pos (starEach es X.env)).any (·.1) = false := by rfl) : PE X (.Call (.Name x p) (e :: es) [] pos) (tCall sp [] E0 t) := by
  obtain ⟨f, fd, F, g, kp, b⟩ := C
  exact pe_g F hG (hr.mono hjk) hg g kp b .nil pass0 ha hdb he hpl
theorem pe_cl0 (C : Cl X.prog X.w X.K X.mg X.base j x ps sp) (hG : X.A.guards = some []) (hr : Room k X.A) (hg : Gl X x) (hjk : j ≤ k := by decide)
    (hdb : (x == ("__debug__" : Str)) = false := by decide) : PE X (.Call (.Name x p) [] [] pos) (tCall sp [] E0 tNil) := by
  obtain ⟨f, fd, F, g, kp, b⟩ := C
  exact pe_g0 F hG (hr.mono hjk) hg g kp b .nil pass0 hdb
/-- how a def takes its arguments by name -/
def KwC (K : PySem.W.Frag) (mg : Str → Option Value) (x : Str) (ps ks : List Str) (gV : List V → List V) : Prop :=
  ∀ (f : Addr) (fd : FuncData), mg x = some (.ref f) → (∃ g, KwB K fd ps ks g gV)
end
end Cf
namespace Cf
open PySem PySem.Spec PyProof.Rows L2 Evl
def Ck (P : Program) (w : World) (K : PySem.W.Frag) (mg : Str → Option Value) (base : Heap) (k : Nat) (x : Str) (ks : List Str) (gV : List V → List V) (sp : Sp) : Prop :=
  ∃ (f : Addr) (fd : FuncData) (ps : List Str) (g : List Value → List Value), FnG P w K mg base CX0 k f fd ps sp ∧ mg x = some (.ref f) ∧ PySem.W.keepIn K (.ref f) = true ∧ KwB K fd ps ks g gV
theorem Ck.mk {P : Program} {w : World} {K : PySem.W.Frag} {mg : Str → Option Value} {base : Heap} {k : Nat} {x : Str} {st : Stmt} {ps ks : List Str} {sp : Sp} {f : Addr} {fd : FuncData} {gV : List V → List V}
    (D : Df K mg x st ps f fd) (F : FnG P w K mg base CX0 k f fd ps sp) (g : List Value → List Value)
    (h : ∀ (kV doc pm : Value) (an : Option Addr) (cdv ct : Value) (ws : List Value), ws.length = ks.length → bindArgs (PySem.W.fnOf x x (defArgs st) (defBody st) (defScope st) .none kV doc pm an cdv ct) ⟨[], ks.zip ws⟩ = pure (ps.zip (g ws)))
    (rel : ∀ {zs : List V} {ws : List Value}, zs.length = ks.length → Vals zs ws → Vals (gV zs) (g ws)) : Ck P w K mg base k x ks gV sp :=
  ⟨f, fd, ps, g, F, D.g, D.F.kp, fun_kw D.F h rel⟩
section
variable {X : Cx} {j k : Nat} {ps ks : List Str} {sp : Sp} {x : Str} {p pos : Pos} {kws : List Keyword} {t tk : TA} {gV : List V → List V}
theorem pe_ck (C : Ck X.prog X.w X.K X.mg X.base j x ks gV sp) (hG : X.A.guards = some []) (hr : Room k X.A) (hg : Gl X x) (hkw : PK X kws tk) (hjk : j ≤ k := by decide)
    (hall : (backToKw pos (keywordEach kws X.env)).all (·.1.isSome) = true := by rfl)
    (hks : (backToKw pos (keywordEach kws X.env)).filterMap (·.1) = ks := by rfl)
    (hdb : (x == ("__debug__" : Str)) = false := by decide)
    (hpl : ((backTo pos (starEach [] X.env)).any (·.1) || (backToKw pos (keywordEach kws X.env)).any (·.1.isNone)) = false := by rfl) :
    PE X (.Call (.Name x p) [] kws pos) (tKw ks.length sp gV E0 tk) := by
  obtain ⟨f, fd, ps, g, F, gm, kp, b⟩ := C
  exact pe_gkw F hG (hr.mono hjk) hg gm kp b pass0 hkw hall hks hdb hpl
end
/-- a turn of a loop over enumerate(t) -/
theorem for_enumT {K : PySem.W.Frag} {a : Addr} {xs : List V} {g : TG} {tb : TS} {D : Ends} {σ : L2.St} {H : Hp} (Pv : Nat → L2.St → Hp → Prop) (h0 : Pv 0 σ H) (hl : ∀ i σ H, i ≤ xs.length → Pv i σ H → SqT K H a xs)
    (hq : ∀ i σ H T x, Pv i σ H → H T = none → Pv i σ (upd H T (.tup [.int (i : Nat), x])))
    (hs : ∀ i x T σ H, xs[i]? = some x → Pv i σ H → H T = some (.tup [.int (i : Nat), x]) → g (.ref T) σ H fun σ2 H2 => tb { D with nx := Pv (i + 1), ct := Pv (i + 1), bk := D.nx } σ2 H2) (hd : ∀ σ H, Pv xs.length σ H → D.nx σ H) :
    ∃ W : Nat → Nat → L2.St → Hp → Prop, (∃ m, W 0 m σ H) ∧ ∀ i m σ H, W i m σ H →
      ((IteT K a).stop i H ∧ D.nx σ H) ∨ ((IteT K a).go i H ∧ ∃ N : L2.St → Hp → Prop, (∀ σ' H', N σ' H' → ∃ m', m' < m ∧ W (i + 1) m' σ' H') ∧ ∀ x H', (IteT K a).yld i H x H' → g x σ H' fun σ2 H2 => tb { D with nx := N, ct := N, bk := D.nx } σ2 H2) := by
  refine ⟨fun i m σ H => m = xs.length - i ∧ i ≤ xs.length ∧ Pv i σ H, ⟨xs.length, by simp, Nat.zero_le _, h0⟩, ?_⟩
  intro i m σ H hw
  obtain ⟨rfl, hi, p⟩ := hw
  have q := hl i σ H hi p
  rcases Nat.lt_or_eq_of_le hi with hlt | he
  · refine .inr ⟨⟨xs, xs[i], q, List.getElem?_eq_getElem hlt⟩, Pv (i + 1), fun σ' H' p' => ⟨xs.length - (i + 1), by omega, rfl, hlt, p'⟩, fun v H' y => ?_⟩
    obtain ⟨T, x, rfl, hT, rfl, hx⟩ := y
    exact hs i x T σ _ (hx xs q) (hq i σ H T x p hT) upd_same
  · subst he
    exact .inl ⟨⟨xs, q, rfl⟩, hd σ H p⟩
end Cf

namespace Cf
open PySem PySem.Spec PyProof.Rows L2 Evl

/-! ## types and models, plainly -/
inductive Kd where
  | ch | sc | uc | sh | us | it | ui | lo | ul | wi | uw
  deriving DecidableEq
def Kd.s : Kd → Str
  | .ch => "char" | .sc => "schar" | .uc => "uchar" | .sh => "short" | .us => "ushort" | .it => "int" | .ui => "uint" | .lo => "long" | .ul => "ulong" | .wi => "wide" | .uw => "uwide"
def Kd.rk : Kd → Nat
  | .ch => 0 | .sc => 0 | .uc => 0 | .sh => 1 | .us => 1 | .it => 2 | .ui => 2 | .lo => 3 | .ul => 3 | .wi => 4 | .uw => 4
def Kd.all : List Kd := [.ch, .sc, .uc, .sh, .us, .it, .ui, .lo, .ul, .wi, .uw]
abbrev Kd.v (k : Kd) : V := .str k.s
structure Md where
  w0 : Nat
  w1 : Nat
  w2 : Nat
  w3 : Nat
  w4 : Nat
  u : Bool
structure Md.Ok (m : Md) : Prop where
  h0 : 2 ≤ m.w0
  h1 : m.w0 ≤ m.w1
  h2 : m.w1 ≤ m.w2
  h3 : m.w2 ≤ m.w3
  h4 : m.w3 ≤ m.w4
  h5 : m.w4 ≤ 128
def Md.w (m : Md) : Nat → Nat
  | 0 => m.w0 | 1 => m.w1 | 2 => m.w2 | 3 => m.w3 | _ => m.w4
def Md.ns (m : Md) : List Int := [m.w0, m.w1, m.w2, m.w3, m.w4]
abbrev Md.ws (m : Md) : List V := m.ns.map V.int
def plS (u : Bool) : Str := if u then "u" else "s"
def Md.b (m : Md) (k : Kd) : Nat := m.w k.rk
def Md.un (m : Md) : Kd → Bool
  | .ch => m.u | .uc => true | .us => true | .ui => true | .ul => true | .uw => true | _ => false
def Md.low (m : Md) (k : Kd) : Int := if m.un k then 0 else -(2 ^ (m.b k - 1))
def Md.high (m : Md) (k : Kd) : Int := if m.un k then 2 ^ m.b k - 1 else 2 ^ (m.b k - 1) - 1
theorem Md.Ok.bnd {m : Md} (h : m.Ok) (i : Nat) : 2 ≤ m.w i ∧ m.w i ≤ 128 := by
  obtain ⟨h0, h1, h2, h3, h4, h5⟩ := h
  match i with
  | 0 => simp only [Md.w]; omega
  | 1 => simp only [Md.w]; omega
  | 2 => simp only [Md.w]; omega
  | 3 => simp only [Md.w]; omega
  | n + 4 => simp only [Md.w]; omega
theorem Md.Ok.b {m : Md} (h : m.Ok) (k : Kd) : 2 ≤ m.b k ∧ m.b k ≤ 128 := h.bnd _
theorem Md.at_ {m : Md} {i : Nat} (h : i < 5) : m.ws[i]? = some (.int (m.w i)) := by
  match i, h with
  | 0, _ => rfl
  | 1, _ => rfl
  | 2, _ => rfl
  | 3, _ => rfl
  | 4, _ => rfl
theorem Kd.rk_lt (k : Kd) : k.rk < 5 := by cases k <;> decide

/-- a model stands at p -/
def AtM (K : PySem.W.Frag) (H : Hp) (p : Addr) (m : Md) : Prop := ∃ q, SqT K H p [.ref q, .str (plS m.u)] ∧ SqT K H q m.ws
theorem AtM.ex {K : PySem.W.Frag} {H H' : Hp} {p : Addr} {m : Md} (e : Ex H H') (h : AtM K H p m) : AtM K H' p m := by
  obtain ⟨q, a, b⟩ := h
  exact ⟨q, ex_t e a, ex_t e b⟩

/-! ## the module's constants -/
def CT (K : PySem.W.Frag) (mg : Str → Option Value) (x : Str) (xs : List V) : Prop := ∃ a, mg x = some (.ref a) ∧ ∀ H, SqT K H a xs
def CI (mg : Str → Option Value) (x : Str) (i : Int) : Prop := ∃ t, mg x = some (.int i t)
def CR5 (K : PySem.W.Frag) (w : World) (mg : Str → Option Value) : Prop := ∃ a, mg "RANKS" = some (.ref a) ∧ ∀ k : Kd, KDct K w a k.s (.int k.rk)
def vKINDS : List V := Kd.all.map Kd.v
def vSIGNED : List V := [Kd.sc.v, Kd.sh.v, Kd.it.v, Kd.lo.v, Kd.wi.v]
def vUNSIGNED : List V := [Kd.uc.v, Kd.us.v, Kd.ui.v, Kd.ul.v, Kd.uw.v]
def vPLAIN : List V := [.str "s", .str "u"]
section
variable {X : Cx} {pos : Pos}
theorem pe_ct {x : Str} {xs : List V} (hg : Gl X x) (c : CT X.K X.mg x xs) (hd : (x == ("__debug__" : Str)) = false := by decide) : PE X (.Name x pos) (fun σ H Q => ∀ a, SqT X.K H a xs → Q (.ref a) H) := by
  obtain ⟨a, e, q⟩ := c
  constructor
  intro pins s σ H Q I h
  exact (pe_glob (v := .ref a) hg e rfl hd).run pins s σ H Q I (h a (q H))
theorem pe_ci {x : Str} {i : Int} (hg : Gl X x) (c : CI X.mg x i) (hd : (x == ("__debug__" : Str)) = false := by decide) : PE X (.Name x pos) (tC (.int i)) := by
  obtain ⟨t, e⟩ := c
  exact pe_glob hg e ⟨t, rfl⟩ hd
end
/-! ## promises -/
/-- what a pure def gives -/
def PV (pre : List V → Hp → V → Prop) : Sp := fun vs H Q _ => ∃ v, pre vs H v ∧ ∀ H', Ex H H' → Q v H'
def PU (pre : List V → Hp → List V → Prop) : Sp := fun vs H Q _ => ∃ xs, pre vs H xs ∧ ∀ p H', H p = none → Ex H H' → H' p = some (.tup xs) → Q (.ref p) H'
def PL (pre : List V → Hp → List V → Prop) : Sp := fun vs H Q _ => ∃ xs, pre vs H xs ∧ ∀ p H', H p = none → Ex H H' → H' p = some (.lst xs) → Q (.ref p) H'
theorem PV.sp {pre : List V → Hp → V → Prop} {vs : List V} {H : Hp} {v : V} (h : ∀ H1, Ex H H1 → pre vs H1 v) : SpV (PV pre) vs H v := fun H1 e Q q E => ⟨v, h H1 e, q⟩
/-- a def of a model and a type -/
def preMK (K : PySem.W.Frag) (g : Md → Kd → V) : List V → Hp → V → Prop := fun vs H v => ∃ p m k, vs = [.ref p, k.v] ∧ AtM K H p m ∧ m.Ok ∧ v = g m k
def preMU (K : PySem.W.Frag) (g : Md → Kd → List V) : List V → Hp → List V → Prop := fun vs H v => ∃ p m k, vs = [.ref p, k.v] ∧ AtM K H p m ∧ m.Ok ∧ v = g m k
def preMKI (K : PySem.W.Frag) (g : Md → Kd → Int → V) : List V → Hp → V → Prop := fun vs H v => ∃ p m k i, vs = [.ref p, k.v, .int i] ∧ AtM K H p m ∧ m.Ok ∧ v = g m k i
def preMKK (K : PySem.W.Frag) (g : Md → Kd → Kd → V) : List V → Hp → V → Prop := fun vs H v => ∃ p m k l, vs = [.ref p, k.v, l.v] ∧ AtM K H p m ∧ m.Ok ∧ v = g m k l
def preM (K : PySem.W.Frag) : List V → Hp → V → Prop := fun vs H v => ∃ p m, vs = [.ref p] ∧ AtM K H p m ∧ m.Ok ∧ v = .non
def preW (K : PySem.W.Frag) : List V → Hp → V → Prop := fun vs H v => ∃ p m, vs = [.ref p] ∧ SqT K H p (Md.ws m) ∧ m.Ok ∧ v = .non
def preK : List V → Hp → V → Prop := fun vs H v => ∃ k : Kd, vs = [k.v] ∧ v = .non
theorem spMK {K : PySem.W.Frag} {g : Md → Kd → V} {H : Hp} {p : Addr} {m : Md} {k : Kd} (a : AtM K H p m) (o : m.Ok) : SpV (PV (preMK K g)) [.ref p, k.v] H (g m k) := PV.sp fun H1 e => ⟨p, m, k, rfl, a.ex e, o, rfl⟩
theorem spMKI {K : PySem.W.Frag} {g : Md → Kd → Int → V} {H : Hp} {p : Addr} {m : Md} {k : Kd} {i : Int} (a : AtM K H p m) (o : m.Ok) : SpV (PV (preMKI K g)) [.ref p, k.v, .int i] H (g m k i) := PV.sp fun H1 e => ⟨p, m, k, i, rfl, a.ex e, o, rfl⟩
theorem spMKK {K : PySem.W.Frag} {g : Md → Kd → Kd → V} {H : Hp} {p : Addr} {m : Md} {k l : Kd} (a : AtM K H p m) (o : m.Ok) : SpV (PV (preMKK K g)) [.ref p, k.v, l.v] H (g m k l) := PV.sp fun H1 e => ⟨p, m, k, l, rfl, a.ex e, o, rfl⟩
theorem spM {K : PySem.W.Frag} {H : Hp} {p : Addr} {m : Md} (a : AtM K H p m) (o : m.Ok) : SpV (PV (preM K)) [.ref p] H .non := PV.sp fun H1 e => ⟨p, m, rfl, a.ex e, o, rfl⟩
theorem spW {K : PySem.W.Frag} {H : Hp} {p : Addr} {m : Md} (a : SqT K H p m.ws) (o : m.Ok) : SpV (PV (preW K)) [.ref p] H .non := PV.sp fun H1 e => ⟨p, m, rfl, ex_t e a, o, rfl⟩
theorem spK {H : Hp} {k : Kd} : SpV (PV preK) [k.v] H .non := PV.sp fun H1 e => ⟨k, rfl, rfl⟩
/-- a call's tuple -/
def SpU (sp : Sp) (vs : List V) (H : Hp) (xs : List V) : Prop := ∀ H1, Ex H H1 → ∀ Q : VK, (∀ p H2, H1 p = none → Ex H1 H2 → H2 p = some (.tup xs) → Q (.ref p) H2) → ∀ E : XK, sp vs H1 Q E
theorem spMU {K : PySem.W.Frag} {g : Md → Kd → List V} {H : Hp} {p : Addr} {m : Md} {k : Kd} (a : AtM K H p m) (o : m.Ok) : SpU (PU (preMU K g)) [.ref p, k.v] H (g m k) := fun H1 e Q q E => ⟨_, ⟨p, m, k, rfl, a.ex e, o, rfl⟩, q⟩
theorem eu_call {σ : L2.St} {H : Hp} {sp : Sp} {dvs vs xs : List V} {E : XK} {ta : TA} (h : EvA ta σ H vs) (hs : SpU sp (vs ++ dvs) H xs) : EvU (tCall sp dvs E ta) σ H xs := fun H1 e Q q =>
  h H1 e _ fun H2 e2 => hs H2 (e.trans e2) Q (fun p H3 hp e3 h3 => q p H3 (fresh_back e2 hp) (e2.trans e3) h3) E
theorem ev_ct {K : PySem.W.Frag} {σ : L2.St} {H : Hp} {xs : List V} {r : R2} {ta : TE} {x z : V} (ha : Ev ta σ H x) (hr : ∀ a H1, Ex H H1 → SqT K H1 a xs → RV r x (.ref a) H1 z) :
    Ev (tOp r ta (fun σ H Q => ∀ a, SqT K H a xs → Q (.ref a) H)) σ H z := fun H1 e Q q =>
  ha H1 e _ fun H2 e2 => fun a t => hr a H2 (e.trans e2) t H2 (Ex.refl H2) Q fun H3 e3 => q H3 (e2.trans e3)
theorem pre_len1 {pre : List V → Hp → V → Prop} {n : Nat} (h : ∀ vs H v, pre vs H v → vs.length = n) : ∀ vs H Q E, PV pre vs H Q E → vs.length = n := fun vs H Q E q => by
  obtain ⟨v, a, _⟩ := q
  exact h _ _ _ a
theorem pre_lenU {pre : List V → Hp → List V → Prop} {n : Nat} (h : ∀ vs H v, pre vs H v → vs.length = n) : ∀ vs H Q E, PU pre vs H Q E → vs.length = n := fun vs H Q E q => by
  obtain ⟨v, a, _⟩ := q
  exact h _ _ _ a
end Cf

namespace Cf
open PySem PySem.Spec PyProof.Rows L2 Evl

/-! ## the draws -/
/-- all but the object at r is as it was -/
def Bu (r : Addr) (H H' : Hp) : Prop := ∀ b o, b ≠ r → H b = some o → H' b = some o
theorem Bu.refl (r : Addr) (H : Hp) : Bu r H H := fun _ _ _ h => h
theorem Bu.trans {r : Addr} {H H1 H2 : Hp} (a : Bu r H H1) (b : Bu r H1 H2) : Bu r H H2 := fun c o n h => b c o n (a c o n h)
theorem Bu.of {r : Addr} {H H1 : Hp} (a : Ex H H1) : Bu r H H1 := fun c o _ h => a c o h
theorem Bu.upd {r : Addr} {H : Hp} {o : HO} : Bu r H (upd H r o) := fun c u n h => by rw [upd_ne n]; exact h
theorem Bu.l {K : PySem.W.Frag} {r a : Addr} {H H1 : Hp} {xs : List V} (e : Bu r H H1) (n : a ≠ r) (h : SqL K H a xs) : SqL K H1 a xs := by
  rcases h with (h | ⟨o, h⟩) | h
  · exact .inl (.inl (e _ _ n h))
  · exact .inl (.inr ⟨o, e _ _ n h⟩)
  · exact .inr h
def Rng (H : Hp) (r : Addr) (n : Nat) : Prop := ∃ d s c : Int, H r = some (.lst [.int d, .int s, .int c]) ∧ s.natAbs < 2 ^ 70 ∧ 0 ≤ c ∧ c ≤ n
theorem Rng.ex {H H' : Hp} {r : Addr} {n : Nat} (h : Rng H r n) (e : Ex H H') : Rng H' r n := by
  obtain ⟨d, s, c, a, b⟩ := h
  exact ⟨d, s, c, e _ _ a, b⟩
theorem Rng.le {H : Hp} {r : Addr} {n k : Nat} (h : Rng H r n) (l : n ≤ k) : Rng H r k := by
  obtain ⟨d, s, c, a, b1, b2, b3⟩ := h
  exact ⟨d, s, c, a, b1, b2, by omega⟩
/-- a tuple is no list: it stands elsewhere -/
theorem Rng.ne_tup {H : Hp} {r p : Addr} {n : Nat} {xs : List V} (h : Rng H r n) (t : H p = some (.tup xs)) : p ≠ r := by
  obtain ⟨d, s, c, a, _⟩ := h
  exact ne_of t a (fun z => by cases z)
theorem Bu.t {K : PySem.W.Frag} {r a : Addr} {n : Nat} {H H1 : Hp} {xs : List V} (e : Bu r H H1) (g : Rng H r n) (h : SqT K H a xs) : SqT K H1 a xs := by
  rcases h with (h | ⟨o, h⟩) | h
  · exact .inl (.inl (e _ _ (g.ne_tup h) h))
  · refine .inl (.inr ⟨o, e _ _ ?_ h⟩)
    obtain ⟨d, s, c, q, _⟩ := g
    exact ne_of h q (fun z => by cases z)
  · exact .inr h
theorem AtM.bu {K : PySem.W.Frag} {r p : Addr} {n : Nat} {H H1 : Hp} {m : Md} (e : Bu r H H1) (g : Rng H r n) (h : AtM K H p m) : AtM K H1 p m := by
  obtain ⟨q, a, b⟩ := h
  exact ⟨q, e.t g a, e.t g b⟩
def spDraw : Sp := fun vs H Q _ => ∃ r l n, vs = [.ref r, .int l] ∧ 0 < l ∧ l.natAbs.log2 < 9000 ∧ n < 2 ^ 60 ∧ Rng H r n ∧ ∀ H' v, Bu r H H' → Rng H' r (n + 1) → 0 ≤ v → v < l → Q (.int v) H'
def spRng (K : PySem.W.Frag) : Sp := fun vs H Q _ => ∃ (a : Addr) (ns : List Int), vs = [.ref a] ∧ SqL K H a (ns.map V.int) ∧ ns.length ≤ 63 ∧ ∀ r H', H r = none → Ex H H' → Rng H' r 0 → Q (.ref r) H'
theorem cut_mem {xs : List V} {lo hi : Option Int} {x : V} (h : x ∈ cutV xs lo hi) : x ∈ xs := by
  unfold cutV at h
  exact List.mem_of_mem_drop (List.mem_of_mem_take h)
theorem pow10_step (n : Nat) : (10 : Int) ^ (60 * (n + 1)) = 10 ^ (60 * n) * 10 ^ 60 := by
  rw [Nat.mul_succ, Int.pow_add]
theorem big10 : (10 : Nat) ^ 3780 ≤ 2 ^ 13000 := by decide +kernel
theorem pow10_bits {n : Nat} (h : n ≤ 63) {d : Int} (h0 : 0 ≤ d) (h1 : d < 10 ^ (60 * n)) : d.natAbs < 2 ^ 13000 := by
  have e1 : (10 : Nat) ^ (60 * n) ≤ 10 ^ 3780 := Nat.pow_le_pow_right (by decide) (by omega)
  have e2 : d.natAbs < 10 ^ (60 * n) := by
    have e3 : ((10 : Int) ^ (60 * n)) = ((10 ^ (60 * n) : Nat) : Int) := by
      rw [Int.natCast_pow]
      rfl
    rw [e3] at h1
    omega
  exact Nat.lt_of_lt_of_le e2 (Nat.le_trans e1 big10)
end Cf

namespace Cf
open PySem PySem.Spec PyProof.Rows L2 Evl

/-! ## repr of small data -/
mutual
def Sm : PyData → Prop
  | .none => True
  | .bool _ => True
  | .int i => i.natAbs < 2 ^ 140
  | .str x => x.cps.size ≤ 30 ∧ (x.cps.toList.all fun c => decide (c < 16 ^ 8)) = true
  | .list xs => SmAll xs
  | .tuple xs => SmAll xs
  | .dict _ => False
def SmAll : List PyData → Prop
  | [] => True
  | x :: xs => Sm x ∧ SmAll xs
end
mutual
def szD : PyData → Nat
  | .list xs => 1 + szAll xs
  | .tuple xs => 1 + szAll xs
  | _ => 1
def szAll : List PyData → Nat
  | [] => 0
  | x :: xs => szD x + szAll xs
end
theorem int_len {i : Int} (h : i.natAbs < 2 ^ 140) : (PyData.shown (.int i)).length ≤ 141 := by
  have h1 := int_text_length_le (a := i) (k := 140) (by decide) (PySem.Flt.log2_lt_of (by decide) h)
  simp only [PyData.shown]
  show (Str.ofString (toString i)).length ≤ 141
  have e : (Str.ofString (toString i)).length = (toString i).length := PySem.ofString_length _
  omega
mutual
theorem sm_all : ∀ d : PyData, Sm d → d.showable = true ∧ d.hasDict = false ∧ d.leavesShort 141 = true ∧ d.weight + 1 ≤ 142 * szD d
  | .none, _ => ⟨by simp only [PyData.showable], by simp only [PyData.hasDict], by simp only [PyData.leavesShort], by simp only [PyData.weight, szD]; omega⟩
  | .bool _, _ => ⟨by simp only [PyData.showable], by simp only [PyData.hasDict], by simp only [PyData.leavesShort], by simp only [PyData.weight, szD]; omega⟩
  | .int i, h => by
    have h1 : i.natAbs < 2 ^ 140 := h
    have h2 : i.natAbs.log2 < 140 := PySem.Flt.log2_lt_of (by decide) h1
    refine ⟨?_, by simp only [PyData.hasDict], ?_, ?_⟩
    · simp only [PyData.showable]
      exact decide_eq_true (by omega)
    · simp only [PyData.leavesShort]
      exact decide_eq_true (int_len h1)
    · simp only [PyData.weight, szD]
      split <;> omega
  | .str x, h => by
    have h1 : x.cps.size ≤ 30 ∧ (x.cps.toList.all fun c => decide (c < 16 ^ 8)) = true := h
    refine ⟨by simp only [PyData.showable], by simp only [PyData.hasDict], ?_, ?_⟩
    · simp only [PyData.leavesShort]
      exact h1.2
    · simp only [PyData.weight, szD]
      omega
  | .list xs, h => by
    obtain ⟨a, b, c, e⟩ := sm_alls xs h
    refine ⟨by simp only [PyData.showable]; exact a, by simp only [PyData.hasDict]; exact b, by simp only [PyData.leavesShort]; exact c, ?_⟩
    simp only [PyData.weight, szD]
    omega
  | .tuple xs, h => by
    obtain ⟨a, b, c, e⟩ := sm_alls xs h
    refine ⟨by simp only [PyData.showable]; exact a, by simp only [PyData.hasDict]; exact b, by simp only [PyData.leavesShort]; exact c, ?_⟩
    simp only [PyData.weight, szD]
    omega
  | .dict _, h => h.elim
theorem sm_alls : ∀ ds : List PyData, SmAll ds → PyData.showableAll ds = true ∧ PyData.hasDictAll ds = false ∧ PyData.leavesShortAll 141 ds = true ∧ PyData.weightAll ds ≤ 142 * szAll ds
  | [], _ => ⟨by simp only [PyData.showableAll], by simp only [PyData.hasDictAll], by simp only [PyData.leavesShortAll], by simp only [PyData.weightAll]; omega⟩
  | x :: xs, h => by
    obtain ⟨a1, b1, c1, e1⟩ := sm_all x h.1
    obtain ⟨a2, b2, c2, e2⟩ := sm_alls xs h.2
    refine ⟨by simp only [PyData.showableAll, a1, a2]; rfl, by simp only [PyData.hasDictAll, b1, b2]; rfl, by simp only [PyData.leavesShortAll, c1, c2]; rfl, ?_⟩
    simp only [PyData.weightAll, szAll]
    omega
end
theorem sm_len {d : PyData} (h : Sm d) (z : szD d ≤ 800) : d.shown.length ≤ sizeLine := by
  obtain ⟨_, _, c, e⟩ := sm_all d h
  have h1 := PyData.shown_le 141 (by decide) d c
  have h2 := sizeLine_eq
  omega
mutual
theorem dp_ex {K : PySem.W.Frag} {H H' : Hp} (e : Ex H H') : ∀ (d : PyData) (v : V), Dp K H v d → Dp K H' v d
  | .none, _, h => by
    cases h
    exact .non
  | .bool b, _, h => by
    cases h
    exact .bl b
  | .int i, _, h => by
    cases h
    exact .int i
  | .str x, _, h => by
    cases h
    exact .str x
  | .list ds, _, h => by
    cases h with
    | lst a b => exact .lst (ex_l e a) (dps_ex e ds _ b)
  | .tuple ds, _, h => by
    cases h with
    | tup a b => exact .tup (ex_t e a) (dps_ex e ds _ b)
  | .dict _, _, h => nomatch h
theorem dps_ex {K : PySem.W.Frag} {H H' : Hp} (e : Ex H H') : ∀ (ds : List PyData) (vs : List V), DpAll K H vs ds → DpAll K H' vs ds
  | [], _, h => by
    cases h
    exact .nil
  | x :: xs, _, h => by
    cases h with
    | cons a b => exact .cons (dp_ex e x _ a) (dps_ex e xs _ b)
end
section
variable {K : PySem.W.Frag} {σ : L2.St} {H : Hp} {ta : TE} {a : Addr} {d : PyData} {xs : List V}
theorem ev_repr (ha : Ev ta σ H (.ref a)) (hd : Dp K H (.ref a) d) (hs : Sm d) (hz : szD d ≤ 800) (hp : d.depth ≤ 60) : Ev (tCB (rRepr K) (tCons ta tNil)) σ H (.str d.shown) := fun H1 e Q q =>
  ha H1 e _ fun H2 e2 => ⟨a, d, rfl, dp_ex (e.trans e2) d _ hd, (sm_all d hs).1, (sm_all d hs).2.1, sm_len hs hz, hp, q H2 e2⟩
theorem ev_reprN (ha : EvL ta σ H xs) (hd : ∀ H1, Ex H H1 → DpAll K H1 xs (match d with | .list ds => ds | _ => [])) (hl : ∃ ds, d = .list ds) (hs : Sm d) (hz : szD d ≤ 800) (hp : d.depth ≤ 60) :
    Ev (tCB (rRepr K) (tCons ta tNil)) σ H (.str d.shown) := fun H1 e Q q =>
  ha H1 e _ fun p H2 _ e2 h2 => by
    obtain ⟨ds, rfl⟩ := hl
    exact ⟨p, .list ds, rfl, .lst (sq_of h2) (hd H2 (e.trans e2)), (sm_all _ hs).1, (sm_all _ hs).2.1, sm_len hs hz, hp, q H2 e2⟩
theorem dp_ints {H : Hp} : ∀ ns : List Int, DpAll K H (ns.map V.int) (ns.map PyData.int)
  | [] => .nil
  | n :: ns => .cons (.int n) (dp_ints ns)
theorem AtM.dp {p : Addr} {m : Md} (h : AtM K H p m) : Dp K H (.ref p) (.tuple [.tuple (m.ns.map PyData.int), .str (plS m.u)]) := by
  obtain ⟨q, a, b⟩ := h
  exact .tup a (.cons (.tup b (dp_ints _)) (.cons (.str _) .nil))
theorem Md.sm {m : Md} (h : m.Ok) : Sm (.tuple [.tuple (m.ns.map PyData.int), .str (plS m.u)]) := by
  obtain ⟨h0, h1, h2, h3, h4, h5⟩ := h
  have hs : Sm (.str (plS m.u)) := by
    cases m.u
    · exact ⟨by decide, by decide⟩
    · exact ⟨by decide, by decide⟩
  refine ⟨⟨?_, ?_, ?_, ?_, ?_, trivial⟩, hs, trivial⟩
  · show ((m.w0 : Nat) : Int).natAbs < 2 ^ 140
    omega
  · show ((m.w1 : Nat) : Int).natAbs < 2 ^ 140
    omega
  · show ((m.w2 : Nat) : Int).natAbs < 2 ^ 140
    omega
  · show ((m.w3 : Nat) : Int).natAbs < 2 ^ 140
    omega
  · show ((m.w4 : Nat) : Int).natAbs < 2 ^ 140
    omega
end
end Cf

namespace Cf
open PySem PySem.Spec PyProof.Rows L2 Evl
section
variable {K : PySem.W.Frag} {σ : L2.St} {H : Hp} {ta tb tc te : TE} {tr tk : TA} {x z : V} {xs zs : List V} {a b c : Int} {sp : Sp} {m : Nat} {gV : List V → List V} {E : XK}
theorem ev_kw (h : EvA tk σ H zs) (hl : zs.length = m) (hs : SpV sp (gV zs) H z) : Ev (tKw m sp gV E tk) σ H z := fun H1 e Q q =>
  h H1 e _ fun H2 e2 => ⟨hl, hs H2 (e.trans e2) Q (fun H3 e3 => q H3 (e2.trans e3)) E⟩
theorem eu_kw (h : EvA tk σ H zs) (hl : zs.length = m) (hs : SpU sp (gV zs) H xs) : EvU (tKw m sp gV E tk) σ H xs := fun H1 e Q q =>
  h H1 e _ fun H2 e2 => ⟨hl, hs H2 (e.trans e2) Q (fun p H3 hp e3 h3 => q p H3 (fresh_back e2 hp) (e2.trans e3) h3) E⟩
theorem ea_at {Q : List V → Hp → Prop} (h : Ev te σ H x) (k : ∀ H1, Ex H H1 → tr σ H1 fun xs H2 => Q (x :: xs) H2) : tCons te tr σ H Q := h H (Ex.refl H) _ k
theorem ea_atU {Q : List V → Hp → Prop} (h : EvU te σ H xs) (k : ∀ p H1, H p = none → Ex H H1 → H1 p = some (.tup xs) → tr σ H1 fun ys H2 => Q (.ref p :: ys) H2) : tCons te tr σ H Q := h H (Ex.refl H) _ k
theorem ea_atL {Q : List V → Hp → Prop} (h : EvL te σ H xs) (k : ∀ p H1, H p = none → Ex H H1 → H1 p = some (.lst xs) → tr σ H1 fun ys H2 => Q (.ref p :: ys) H2) : tCons te tr σ H Q := h H (Ex.refl H) _ k
theorem ev_chLe (ha : Ev ta σ H (.int a)) (hb : Ev tb σ H (.int b)) (hc : Ev tc σ H (.int c)) :
    Ev (tChain (rI0 fun i j => .bl (decide (i ≤ j))) (rI0 fun i j => .bl (decide (i ≤ j))) ta tb tc) σ H (.bl (decide (a ≤ b ∧ b ≤ c))) := fun H1 e Q q =>
  ha H1 e _ fun H2 e2 => hb H2 (e.trans e2) _ fun H3 e3 => ⟨a, b, rfl, rfl, _, rfl, by
    have e4 := (e.trans e2).trans e3
    by_cases h1 : a ≤ b
    · rw [decide_eq_true h1]
      refine iteT (hc H3 e4 _ fun H4 e5 => ⟨b, c, rfl, rfl, ?_⟩)
      have e6 : decide (b ≤ c) = decide (a ≤ b ∧ b ≤ c) := by
        by_cases h2 : b ≤ c
        · rw [decide_eq_true h2, decide_eq_true ⟨h1, h2⟩]
        · rw [decide_eq_false h2, decide_eq_false fun z => h2 z.2]
      show Q (.bl (decide (b ≤ c))) H4
      rw [e6]
      exact q H4 ((e2.trans e3).trans e5)
    · rw [decide_eq_false h1]
      refine iteF ?_
      have e6 : decide (a ≤ b ∧ b ≤ c) = false := decide_eq_false fun z => h1 z.1
      rw [e6] at q
      exact q H3 (e2.trans e3)⟩
theorem q_par {tz : TS} {D : Ends} {i j : Nat} {y : V} (ha : Ev ta σ H x) (hb : Ev tb σ H y) (k : ∀ H1, Ex H H1 → tz D ((σ.set i (some x)).set j (some y)) H1) : tSeq (tPar i j (tCons ta (tCons tb tNil))) tz D σ H :=
  ha H (Ex.refl H) _ fun H1 e1 => hb H1 e1 _ fun H2 e2 => ⟨x, y, rfl, k H2 (e1.trans e2)⟩
theorem q_raw {tz : TS} {D : Ends} {i : Nat} (h : te σ H fun x H1 => tz D (σ.set i (some x)) H1) : tSeq (tAsg te (gName i)) tz D σ H := h
theorem lst_raw {Q : VK} (h : tr σ H fun xs H1 => xs.length ≤ sizeLine ∧ ∀ p, H1 p = none → Q (.ref p) (upd H1 p (.lst xs))) : tLst tr σ H Q := h
theorem tup_raw {Q : VK} (h : tr σ H fun xs H1 => xs.length ≤ sizeLine ∧ ∀ p, H1 p = none → Q (.ref p) (upd H1 p (.tup xs))) : tTup tr σ H Q := h
theorem ev_reprL {ds : List PyData} (ha : EvL ta σ H xs) (hd : ∀ H1, Ex H H1 → DpAll K H1 xs ds) (hs : SmAll ds) (hz : szD (.list ds) ≤ 800) (hp : (PyData.list ds).depth ≤ 60) :
    Ev (tCB (rRepr K) (tCons ta tNil)) σ H (.str (PyData.shown (.list ds))) := fun H1 e Q q =>
  ha H1 e _ fun p H2 _ e2 h2 => ⟨p, .list ds, rfl, .lst (sq_of h2) (hd H2 (e.trans e2)), (sm_all (.list ds) hs).1, (sm_all (.list ds) hs).2.1, sm_len (d := .list ds) hs hz, hp, q H2 e2⟩
theorem q_newL {t u : TS} {D : Ends} {p : Addr} (n : H p = none) (k : ∀ H', Ex H H' → H' p = some (.lst xs) → tSeq t u D σ H') : tSeq t u D σ (upd H p (.lst xs)) := k _ (Ex.new n) upd_same
theorem q_newT {t u : TS} {D : Ends} {p : Addr} (n : H p = none) (k : ∀ H', Ex H H' → H' p = some (.tup xs) → tSeq t u D σ H') : tSeq t u D σ (upd H p (.tup xs)) := k _ (Ex.new n) upd_same
theorem op_raw {r : R2} {Q : VK} (h : ta σ H fun x H1 => tb σ H1 fun y H2 => r x y H2 Q) : tOp r ta tb σ H Q := h
theorem test_raw {Q : Bool → Hp → Prop} (h : te σ H fun x H' => ∃ k, x = .bl k ∧ Q k H') : tTest te σ H Q := h
theorem if_raw {t : TT} {u v : TS} {D : Ends} (h : t σ H fun b H1 => if b = true then u D σ H1 else v D σ H1) : tIfS t u v D σ H := h
theorem lc_go {g : TG} {tt : TT} {vs : List Nat} {Q : VK} (hl : EvL ta σ H xs) (Pv : Addr → Addr → Nat → Hp → Prop)
    (h0 : ∀ a D H1, H a = none → Ex H H1 → H1 a = some (.lst xs) → H1 D = none → Pv a D 0 (upd H1 D (.lst [])))
    (hk : ∀ a D i H', i ≤ xs.length → Pv a D i H' → SqL K H' a xs)
    (hs : ∀ a D i x H', xs[i]? = some x → Pv a D i H' → g x (wipe σ vs) H' fun σ2 H2 => wipe σ2 vs = wipe σ vs ∧ tt σ2 H2 fun b H3 =>
      if b = true then te σ2 H3 fun y H4 => ∃ acc, H4 D = some (.lst acc) ∧ acc.length < sizeLine ∧ Pv a D (i + 1) (upd H4 D (.lst (acc ++ [y]))) else Pv a D (i + 1) H3)
    (hd : ∀ a D H', Pv a D xs.length H' → Q (.ref D) H') : tLc (iList K ta) g tt te vs σ H Q :=
  hl H (Ex.refl H) _ fun a H1 n1 e1 h1 => ⟨a, rfl, ⟨xs, sq_of h1⟩, fun D nD => lc_list (Pv a D) (h0 a D H1 n1 e1 h1 nD) (hk a D) (hs a D) (hd a D)⟩
theorem ev_pair {d e : PyData} (h1 : Ev ta σ H (.str d.shown)) (h2 : Ev tb σ H (.str e.shown)) (h : d = e) : Ev (tOp rNe ta tb) σ H (.bl false) := by
  subst h
  refine ev_is (ev_op h1 h2 (rv_ne rfl)) ?_
  rw [decide_eq_true rfl]
  rfl
end
def gV2 : List V → List V
  | [a, b] => [b, a]
  | _ => []
def gU2 : List Value → List Value
  | [a, b] => [b, a]
  | _ => []
def gV3 : List V → List V
  | [a, b, c] => [c, b, a]
  | _ => []
def gU3 : List Value → List Value
  | [a, b, c] => [c, b, a]
  | _ => []
theorem g2_rel : ∀ {zs : List V} {ws : List Value}, zs.length = 2 → Vals zs ws → Vals (gV2 zs) (gU2 ws)
  | [_, _], [_, _], _, .cons a (.cons b .nil) => .cons b (.cons a .nil)
theorem g3_rel : ∀ {zs : List V} {ws : List Value}, zs.length = 3 → Vals zs ws → Vals (gV3 zs) (gU3 ws)
  | [_, _, _], [_, _, _], _, .cons a (.cons b (.cons c .nil)) => .cons c (.cons b (.cons a .nil))
end Cf

namespace Cf
open PySem PySem.Spec PyProof.Rows L2 Evl
theorem shl1 {b : Nat} {σ : L2.St} {H : Hp} (h : b ≤ 128) {ta tb : TE} (ha : Ev ta σ H (.int 1)) (hb : Ev tb σ H (.int (b : Int))) : Ev (tOp (rI CPow fun i j => .int (i * 2 ^ j.toNat)) ta tb) σ H (.int (2 ^ b)) := by
  refine ev_is (ev_op ha hb (rv_I ⟨by omega, by omega, by decide⟩)) ?_
  rw [Int.toNat_natCast, Int.one_mul]

theorem small_log {i : Int} {n : Nat} (hn : 0 < n) (h : i.natAbs < 2 ^ n) (h2 : n ≤ 90000) : CPowW i 3 := ⟨by decide, by decide, by
  have := PySem.Flt.log2_lt_of hn h
  omega⟩

def preNil (xs : List V) : List V → Hp → List V → Prop := fun vs H ys => vs = [] ∧ ys = xs
theorem PL.sp {pre : List V → Hp → List V → Prop} {vs xs : List V} {H : Hp} (h : ∀ H1, Ex H H1 → pre vs H1 xs) : SpL (PL pre) vs H xs := fun H1 e Q q E => ⟨xs, h H1 e, q⟩
def preKv (g : Kd → V) : List V → Hp → V → Prop := fun vs H v => ∃ k : Kd, vs = [k.v] ∧ v = g k
theorem spKv {g : Kd → V} {H : Hp} {k : Kd} : SpV (PV (preKv g)) [k.v] H (g k) := PV.sp fun H1 e => ⟨k, rfl, rfl⟩
def Kd.ix : Kd → Nat
  | .ch => 0 | .sc => 1 | .uc => 2 | .sh => 3 | .us => 4 | .it => 5 | .ui => 6 | .lo => 7 | .ul => 8 | .wi => 9 | .uw => 10
theorem kd_at : ∀ {m : Nat} {z : V}, vKINDS[m]? = some z → ∃ k : Kd, k.ix = m ∧ z = k.v
  | 0, _, h => ⟨.ch, rfl, (Option.some.inj h).symm⟩
  | 1, _, h => ⟨.sc, rfl, (Option.some.inj h).symm⟩
  | 2, _, h => ⟨.uc, rfl, (Option.some.inj h).symm⟩
  | 3, _, h => ⟨.sh, rfl, (Option.some.inj h).symm⟩
  | 4, _, h => ⟨.us, rfl, (Option.some.inj h).symm⟩
  | 5, _, h => ⟨.it, rfl, (Option.some.inj h).symm⟩
  | 6, _, h => ⟨.ui, rfl, (Option.some.inj h).symm⟩
  | 7, _, h => ⟨.lo, rfl, (Option.some.inj h).symm⟩
  | 8, _, h => ⟨.ul, rfl, (Option.some.inj h).symm⟩
  | 9, _, h => ⟨.wi, rfl, (Option.some.inj h).symm⟩
  | 10, _, h => ⟨.uw, rfl, (Option.some.inj h).symm⟩
  | _ + 11, _, h => nomatch h
theorem kd_eq (k l : Kd) : eqV k.v l.v = decide (k = l) := by cases k <;> cases l <;> rfl
/-- xs.index(k) in the list of all types -/
theorem ev_index {K : PySem.W.Frag} {σ : L2.St} {H : Hp} {ta tb : TE} {k : Kd} (ha : EvL ta σ H vKINDS) (hb : ∀ H1, Ex H H1 → Ev tb σ H1 k.v) : Ev (tBM K "list" (rIndex K) ta (tCons tb tNil)) σ H (.int (k.ix : Nat)) := fun H1 e Q q =>
  ha H1 e _ fun p H2 _ e2 h2 => ⟨.inl ⟨rfl, _, sq_of h2⟩, hb H2 (e.trans e2) H2 (Ex.refl H2) _ fun H3 e3 =>
    ⟨p, vKINDS, k.v, k.ix, k.v, rfl, rfl, sq_of (e3 _ _ h2), rfl, rfl, by cases k <;> rfl, by rw [kd_eq]; exact decide_eq_true rfl, fun m z hm hz => by
      obtain ⟨k2, e4, rfl⟩ := kd_at hz
      rw [kd_eq]
      refine decide_eq_false fun e5 => ?_
      subst e5
      omega, q H3 (e2.trans e3)⟩⟩

theorem draw_at {σ : L2.St} {H : Hp} {ta : TA} {r : Addr} {l : Int} {n : Nat} {E : XK} {Q : VK} (h : EvA ta σ H [.ref r, .int l]) (l0 : 0 < l) (l1 : l.natAbs.log2 < 9000) (hn : n < 2 ^ 60) (g : Rng H r n)
    (k : ∀ H' v, Bu r H H' → Rng H' r (n + 1) → 0 ≤ v → v < l → Q (.int v) H') : tCall spDraw [] E ta σ H Q :=
  h H (Ex.refl H) _ fun H1 e1 => ⟨r, l, n, rfl, l0, l1, hn, g.ex e1, fun H' v b g2 v0 v1 => k H' v ((Bu.of e1).trans b) g2 v0 v1⟩
theorem log_small {l : Int} (h : l.natAbs < 2 ^ 200) : l.natAbs.log2 < 9000 := by
  have := PySem.Flt.log2_lt_of (by decide : 0 < 200) h
  omega
/-- widths so far: they ascend from low, the last is at most here -/
def Asc : Int → List Int → Int → Prop
  | low, [], here => low ≤ here
  | low, x :: xs, here => low ≤ x ∧ Asc x xs here
theorem Asc.le : ∀ {low : Int} {xs : List Int} {here : Int}, Asc low xs here → low ≤ here
  | _, [], _, h => h
  | _, x :: xs, _, h => Int.le_trans h.1 (Asc.le h.2)
theorem Asc.add : ∀ {low : Int} {xs : List Int} {here h2 : Int}, Asc low xs here → here ≤ h2 → Asc low (xs ++ [h2]) h2
  | _, [], _, _, h, h' => ⟨Int.le_trans h h', Int.le_refl _⟩
  | _, x :: xs, _, _, h, h' => ⟨h.1, Asc.add h.2 h'⟩
def spScheme (K : PySem.W.Frag) : Sp := fun vs H Q _ => ∃ r low top n, vs = [.ref r, .int low, .int top] ∧ 2 ≤ low ∧ low ≤ top ∧ top ≤ 128 ∧ n < 2 ^ 50 ∧ Rng H r n ∧
  ∀ p H' m, Bu r H H' → Rng H' r (n + 20) → AtM K H' p m → m.Ok → low ≤ m.w0 → (m.w4 : Int) ≤ top → Q (.ref p) H'

theorem Md.small (m : Md) (h : m.Ok) (k : Kd) : (m.low k).natAbs < 2 ^ 140 ∧ (m.high k).natAbs < 2 ^ 140 := by
  obtain ⟨b0, b1⟩ := h.b k
  have key : ∀ n : Nat, n ≤ 128 → (2 : Int) ^ n ≤ 2 ^ 128 ∧ 1 ≤ (2 : Int) ^ n := fun n hn => by
    have e1 : ((2 : Int) ^ n) = ((2 ^ n : Nat) : Int) := by
      rw [Int.natCast_pow]
      rfl
    have e2 : (2 : Nat) ^ n ≤ 2 ^ 128 := Nat.pow_le_pow_right (by decide) hn
    have e3 : 1 ≤ (2 : Nat) ^ n := Nat.one_le_two_pow
    rw [e1]
    omega
  obtain ⟨k1, k2⟩ := key (m.b k) b1
  obtain ⟨k3, k4⟩ := key (m.b k - 1) (by omega)
  unfold Md.low Md.high
  split <;> omega

theorem pick2 {K : PySem.W.Frag} {σ : L2.St} {H : Hp} {r : Addr} {a b : Int} {n j : Nat} {E : XK} {Q : VK} (g : Rng H r n) (hn : n < 2 ^ 60) (hj : σ[j]? = some (some (.ref r))) (k : ∀ H' x, Bu r H H' → Rng H' r (n + 1) → (x = a ∨ x = b) → Q (.int x) H') :
    tOp (rIxL K) (tLst (tCons (tC (.int a)) (tCons (tC (.int b)) tNil))) (tCall spDraw [] E (tCons (tVar j) (tCons (tC (.int 2)) tNil))) σ H Q := by
  refine ⟨by show 2 ≤ sizeLine; decide, fun t nt => ?_⟩
  have e1 : Ex H (upd H t (.lst [.int a, .int b])) := Ex.new nt
  have htr : t ≠ r := by
    obtain ⟨d, s2, c, q, _⟩ := g
    exact fun z => by
      rw [z, q] at nt
      cases nt
  refine draw_at (l := 2) (n := n) (ea_cons (ev_var hj) (ea_cons ev_c ea_nil)) (by decide) (log_small (by decide)) hn (g.ex e1) fun H2 v b2 g2 v0 v1 => ?_
  have h2 : H2 t = some (.lst [.int a, .int b]) := b2 _ _ htr upd_same
  have hv : v = 0 ∨ v = 1 := by omega
  rcases hv with rfl | rfl
  · exact ⟨t, _, 0, _, rfl, rfl, sq_of h2, atI_nat (j := 0) rfl, k H2 a ((Bu.of e1).trans b2) g2 (.inl rfl)⟩
  · exact ⟨t, _, 1, _, rfl, rfl, sq_of h2, atI_nat (j := 1) rfl, k H2 b ((Bu.of e1).trans b2) g2 (.inr rfl)⟩
def spLaw (K : PySem.W.Frag) : Sp := fun vs H Q _ => ∃ (a : Addr) (ns : List Int), vs = [.ref a] ∧ SqL K H a (ns.map V.int) ∧ ns.length ≤ 63 ∧ ∀ H', Q (.bl true) H'
theorem rv_eqDT {K : PySem.W.Frag} {H : Hp} {p q : Addr} {d e : PyData} (hd : ∀ H1, Ex H H1 → Dp K H1 (.ref p) d) (he : ∀ H1, Ex H H1 → Dp K H1 (.ref q) e) (sd : SeqAt.shaped d = true) (se : SeqAt.shaped e = true) {b : Bool} (hb : PyData.eqv d e = b) :
    RV (rEqD K) (.ref p) (.ref q) H (.bl b) := fun H1 e1 Q q => ⟨d, e, hd H1 e1, he H1 e1, sd, se, by rw [hb]; exact q H1 (Ex.refl H1)⟩

end Cf

namespace Cf
open PySem PySem.Spec PyProof.Rows L2 Evl
/-! ## promotion, common types -/
def uKd : Nat → Kd
  | 0 => .uc | 1 => .us | 2 => .ui | 3 => .ul | _ => .uw
def sKd : Nat → Kd
  | 2 => .it | 3 => .lo | _ => .wi
def Md.prom (m : Md) (k : Kd) : Kd := if 2 ≤ k.rk then k else if m.un k = true ∧ m.b .it ≤ m.b k then .ui else .it
def Md.mix (m : Md) (u s : Kd) : Kd := if s.rk ≤ u.rk then u else if m.b u < m.b s then s else uKd s.rk
def Md.com2 (m : Md) (a b : Kd) : Kd := if m.un a = m.un b then (if b.rk ≤ a.rk then a else b) else if m.un a = true then m.mix a b else m.mix b a
def Md.com (m : Md) (k l : Kd) : Kd := m.com2 (m.prom k) (m.prom l)
/-- the six promoted types -/
def Kd.big (k : Kd) : Prop := k = .it ∨ k = .ui ∨ k = .lo ∨ k = .ul ∨ k = .wi ∨ k = .uw
theorem Md.prom_big (m : Md) (k : Kd) : (m.prom k).big := by
  unfold Md.prom
  by_cases h : 2 ≤ k.rk
  · rw [if_pos h]
    revert h
    unfold Kd.big
    cases k <;> decide
  · rw [if_neg h]
    by_cases h2 : m.un k = true ∧ m.b .it ≤ m.b k
    · rw [if_pos h2]
      exact .inr (.inl rfl)
    · rw [if_neg h2]
      exact .inl rfl
/-- a pure def's promise over a model at p and types -/
theorem ev_mk {K : PySem.W.Frag} {σ : L2.St} {H : Hp} {p : Addr} {m : Md} {k : Kd} {g : Md → Kd → V} {i j : Nat} (a : AtM K H p m) (o : m.Ok) (hi : σ[i]? = some (some (.ref p))) (hj : σ[j]? = some (some k.v)) :
    Ev (tCall (PV (preMK K g)) [] E0 (tCons (tVar i) (tCons (tVar j) tNil))) σ H (g m k) := ev_call (ea_cons (ev_var hi) (ea_cons (ev_var hj) ea_nil)) (spMK a o)
/-- RANKS[k] -/
def tRk (K : PySem.W.Frag) (w : World) (aR : Addr) (tk : TE) : TE := tOp (rIxD K w) (tC (.ref aR)) tk
theorem ev_rk {K : PySem.W.Frag} {w : World} {aR : Addr} (tR : ∀ k : Kd, KDct K w aR k.s (.int k.rk)) {σ : L2.St} {H : Hp} {tk : TE} {k : Kd} (h : Ev tk σ H k.v) : Ev (tOp (rIxD K w) (tC (.ref aR)) tk) σ H (.int (k.rk : Nat)) :=
  ev_op ev_c h fun H1 _ Q1 q1 => ⟨aR, k.s, _, rfl, rfl, tR k, q1 H1 (Ex.refl H1)⟩
theorem pick3 {K : PySem.W.Frag} {σ : L2.St} {H : Hp} {r : Addr} {a b c : Int} {n j : Nat} {E : XK} {Q : VK} (g : Rng H r n) (hn : n < 2 ^ 60) (hj : σ[j]? = some (some (.ref r))) (k : ∀ H' x, Bu r H H' → Rng H' r (n + 1) → (x = a ∨ x = b ∨ x = c) → Q (.int x) H') :
    tOp (rIxL K) (tLst (tCons (tC (.int a)) (tCons (tC (.int b)) (tCons (tC (.int c)) tNil)))) (tCall spDraw [] E (tCons (tVar j) (tCons (tC (.int 3)) tNil))) σ H Q := by
  refine ⟨by show 3 ≤ sizeLine; decide, fun t nt => ?_⟩
  have e1 : Ex H (upd H t (.lst [.int a, .int b, .int c])) := Ex.new nt
  have htr : t ≠ r := by
    obtain ⟨d, s2, c, q, _⟩ := g
    exact fun z => by
      rw [z, q] at nt
      cases nt
  refine draw_at (l := 3) (n := n) (ea_cons (ev_var hj) (ea_cons ev_c ea_nil)) (by decide) (log_small (by decide)) hn (g.ex e1) fun H2 v b2 g2 v0 v1 => ?_
  have h2 : H2 t = some (.lst [.int a, .int b, .int c]) := b2 _ _ htr upd_same
  have hv : v = 0 ∨ v = 1 ∨ v = 2 := by omega
  rcases hv with rfl | rfl | rfl
  · exact ⟨t, _, 0, _, rfl, rfl, sq_of h2, atI_nat (j := 0) rfl, k H2 a ((Bu.of e1).trans b2) g2 (.inl rfl)⟩
  · exact ⟨t, _, 1, _, rfl, rfl, sq_of h2, atI_nat (j := 1) rfl, k H2 b ((Bu.of e1).trans b2) g2 (.inr (.inl rfl))⟩
  · exact ⟨t, _, 2, _, rfl, rfl, sq_of h2, atI_nat (j := 2) rfl, k H2 c ((Bu.of e1).trans b2) g2 (.inr (.inr rfl))⟩
/-! ### the law's own way -/
def lawOf (r : Nat) (s : Bool) : Kd := if s = true then sKd r else uKd r
def Md.lawCom (m : Md) (a b : Kd) : Kd :=
  if (!m.un a) = (!m.un b) then lawOf (max a.rk b.rk) (!m.un a)
  else lawOf (max a.rk b.rk) (decide ((if (!(!m.un a)) = true then a else b).rk < max a.rk b.rk) && decide (m.w (if (!(!m.un a)) = true then a else b).rk < m.w (max a.rk b.rk)))
theorem Md.lawCom_eq (m : Md) {a b : Kd} (ha : a.big) (hb : b.big) : m.lawCom a b = m.com2 a b := by
  rcases ha with rfl | rfl | rfl | rfl | rfl | rfl <;> rcases hb with rfl | rfl | rfl | rfl | rfl | rfl <;>
    simp [Md.lawCom, Md.com2, Md.mix, Md.un, Kd.rk, lawOf, sKd, uKd, Md.b, Md.w]
theorem big_rk {k : Kd} (h : k.big) : 2 ≤ k.rk ∧ k.rk ≤ 4 := by
  rcases h with rfl | rfl | rfl | rfl | rfl | rfl <;> decide
def preOf : List V → Hp → V → Prop := fun vs H v => ∃ (r : Nat) (s : Bool), vs = [.int r, .bl s] ∧ 2 ≤ r ∧ r ≤ 4 ∧ v = (lawOf r s).v
theorem spOf {H : Hp} {r : Nat} {s : Bool} (h0 : 2 ≤ r) (h1 : r ≤ 4) : SpV (PV preOf) [.int r, .bl s] H (lawOf r s).v := PV.sp fun H1 e => ⟨r, s, rfl, h0, h1, rfl⟩
def preM1 (K : PySem.W.Frag) (v : V) : List V → Hp → V → Prop := fun vs H z => ∃ p m, vs = [.ref p] ∧ AtM K H p m ∧ m.Ok ∧ z = v
theorem spM1 {K : PySem.W.Frag} {H : Hp} {p : Addr} {m : Md} {v : V} (a : AtM K H p m) (o : m.Ok) : SpV (PV (preM1 K v)) [.ref p] H v := PV.sp fun H1 e => ⟨p, m, rfl, a.ex e, o, rfl⟩
/-- != of two new lists that hold the same -/
theorem ev_neL {K : PySem.W.Frag} {σ : L2.St} {H : Hp} {ta tb : TE} {xs ys : List V} {ds : List PyData} (ha : EvL ta σ H xs) (hb : EvL tb σ H ys) (hx : ∀ H1, Ex H H1 → DpAll K H1 xs ds) (hy : ∀ H1, Ex H H1 → DpAll K H1 ys ds)
    (hs : SeqAt.shaped (.list ds) = true) (he : PyData.eqv (.list ds) (.list ds) = true) : Ev (tOp (rNeD K) ta tb) σ H (.bl false) :=
  ev_opLL ha hb fun p q H1 hp hq e => fun H2 e2 Q k => ⟨.list ds, .list ds, .lst (sq_of (e2 _ _ hp)) (hx H2 (e.trans e2)), .lst (sq_of (e2 _ _ hq)) (hy H2 (e.trans e2)), hs, hs, by rw [he]; exact k H2 (Ex.refl H2)⟩
theorem ev_eqL {K : PySem.W.Frag} {σ : L2.St} {H : Hp} {ta tb : TE} {a : Addr} {ys : List V} {ds : List PyData} (ha : Ev ta σ H (.ref a)) (hb : EvL tb σ H ys) (hx : ∀ H1, Ex H H1 → Dp K H1 (.ref a) (.list ds)) (hy : ∀ H1, Ex H H1 → DpAll K H1 ys ds)
    (hs : SeqAt.shaped (.list ds) = true) (he : PyData.eqv (.list ds) (.list ds) = true) : Ev (tOp (rEqD K) ta tb) σ H (.bl true) :=
  ev_opL ha hb fun q H1 hq e => fun H2 e2 Q k => ⟨.list ds, .list ds, hx H2 (e.trans e2), .lst (sq_of (e2 _ _ hq)) (hy H2 (e.trans e2)), hs, hs, by rw [he]; exact k H2 (Ex.refl H2)⟩
theorem dp_kd {K : PySem.W.Frag} {H : Hp} : ∀ ks : List Kd, DpAll K H (ks.map Kd.v) (ks.map fun k => .str k.s)
  | [] => .nil
  | k :: ks => .cons (.str _) (dp_kd ks)
theorem kd_eqs : ∀ k : Kd, PyData.eqv (.str k.s) (.str k.s) = true := fun k => by cases k <;> rfl
theorem eqv_kd : ∀ ks : List Kd, PyData.eqvAll (ks.map fun k => .str k.s) (ks.map fun k => .str k.s) = true
  | [] => rfl
  | k :: ks => by
    show (PyData.eqv (.str k.s) (.str k.s) && PyData.eqvAll _ _) = true
    rw [kd_eqs k, eqv_kd ks]
    rfl
theorem Md.com_comm (m : Md) (k l : Kd) : m.com k l = m.com l k := by
  unfold Md.com
  have ha := m.prom_big k
  have hb := m.prom_big l
  generalize m.prom k = a at ha ⊢
  generalize m.prom l = b at hb ⊢
  rcases ha with rfl | rfl | rfl | rfl | rfl | rfl <;> rcases hb with rfl | rfl | rfl | rfl | rfl | rfl <;>
    simp [Md.com2, Md.mix, Md.un, Kd.rk]
/-- a list comprehension's or a loop's list of all types, made anew -/
theorem el_labels {σ : L2.St} {H : Hp} : EvL (tCall (PL (preNil vKINDS)) [] E0 tNil) σ H vKINDS := el_call ea_nil (PL.sp fun H7 e7 => ⟨rfl, rfl⟩)
def kdD (ks : List Kd) : List PyData := ks.map fun k => .str k.s
theorem kdl_lay : ∀ ks : List Kd, PyData.canLayAll0 (kdD ks) = true
  | [] => by simp [kdD, PyData.canLayAll0]
  | k :: ks => by
    have ih := kdl_lay ks
    have hk : PyData.strOk k.s = true := by cases k <;> decide +kernel
    unfold kdD at ih ⊢
    simp [PyData.canLayAll0, PyData.canLay0, ih, hk]
theorem kdl_depth : ∀ ks : List Kd, PyData.depthAll (kdD ks) ≤ 2
  | [] => by simp [kdD, PyData.depthAll]
  | k :: ks => by
    have ih := kdl_depth ks
    unfold kdD at ih ⊢
    simp only [List.map_cons, PyData.depthAll, PyData.depth]
    omega
theorem kdl_shaped (ks : List Kd) : SeqAt.shaped (.list (kdD ks)) = true := by
  have h1 := kdl_depth ks
  show (PyData.canLay0 (.list (kdD ks)) && decide (PyData.depth (.list (kdD ks)) ≤ 64)) = true
  rw [Bool.and_eq_true]
  refine ⟨by simp only [PyData.canLay0]; exact kdl_lay ks, decide_eq_true ?_⟩
  simp only [PyData.depth]
  omega
theorem kdl_eqv (ks : List Kd) : PyData.eqv (.list (kdD ks)) (.list (kdD ks)) = true := by
  simp only [PyData.eqv]
  exact eqv_kd ks
theorem ev_neK {K : PySem.W.Frag} {σ : L2.St} {H : Hp} {ta tb : TE} {xs ys : List V} (ks : List Kd) (ha : EvL ta σ H xs) (hb : EvL tb σ H ys) (hx : xs = ks.map Kd.v := by rfl) (hy : ys = ks.map Kd.v := by rfl) : Ev (tOp (rNeD K) ta tb) σ H (.bl false) := by
  subst hx hy
  exact ev_neL (ds := kdD ks) ha hb (fun _ _ => dp_kd ks) (fun _ _ => dp_kd ks) (kdl_shaped ks) (kdl_eqv ks)
theorem ev_eqK {K : PySem.W.Frag} {σ : L2.St} {H : Hp} {ta tb : TE} {a : Addr} {xs ys : List V} (ks : List Kd) (ha : Ev ta σ H (.ref a)) (hb : EvL tb σ H ys) (hl : SqL K H a xs) (hx : xs = ks.map Kd.v := by rfl) (hy : ys = ks.map Kd.v := by rfl) : Ev (tOp (rEqD K) ta tb) σ H (.bl true) := by
  subst hx hy
  exact ev_eqL (ds := kdD ks) ha hb (fun _ e => .lst (ex_l e hl) (dp_kd ks)) (fun _ _ => dp_kd ks) (kdl_shaped ks) (kdl_eqv ks)
end Cf

namespace Cf
open PySem PySem.Spec PyProof.Rows L2 Evl
/-! ## conversion -/
def Md.conv (m : Md) (k : Kd) (i : Int) : Int := (i - m.low k) % (m.high k - m.low k + 1) + m.low k
theorem p2 (n : Nat) : (0 : Int) < 2 ^ n := Int.pow_pos (by decide)
theorem p2s {n : Nat} (h : 1 ≤ n) : (2 : Int) ^ n = 2 * 2 ^ (n - 1) := by
  obtain ⟨k, rfl⟩ : ∃ k, n = k + 1 := ⟨n - 1, by omega⟩
  rw [Nat.add_sub_cancel, Int.pow_succ, Int.mul_comm]
theorem Md.span (m : Md) (h : m.Ok) (k : Kd) : m.high k - m.low k + 1 = 2 ^ m.b k := by
  obtain ⟨b0, _⟩ := h.b k
  have e := p2s (n := m.b k) (by omega)
  unfold Md.low Md.high
  split <;> omega
theorem Md.conv_in (m : Md) (h : m.Ok) (k : Kd) (i : Int) : m.low k ≤ m.conv k i ∧ m.conv k i ≤ m.high k := by
  have e := m.span h k
  have p := p2 (m.b k)
  unfold Md.conv
  have h0 := Int.emod_nonneg (i - m.low k) (show m.high k - m.low k + 1 ≠ 0 by omega)
  have h1 := Int.emod_lt_of_pos (i - m.low k) (show 0 < m.high k - m.low k + 1 by omega)
  omega
theorem Md.conv_mod (m : Md) (h : m.Ok) (k : Kd) (i : Int) : (m.conv k i - i) % 2 ^ m.b k = 0 := by
  have e := m.span h k
  unfold Md.conv
  rw [e]
  have h1 := Int.emod_add_mul_ediv (i - m.low k) (2 ^ m.b k)
  have h2 : (i - m.low k) % 2 ^ m.b k + m.low k - i = 2 ^ m.b k * (-((i - m.low k) / 2 ^ m.b k)) := by
    rw [Int.mul_neg]
    omega
  rw [h2]
  exact Int.mul_emod_right _ _
/-- the law's own way to say that an integer is held -/
theorem Md.held (m : Md) (h : m.Ok) (k : Kd) (i : Int) : (if (!m.un k) = true then decide (0 - 2 ^ m.b k ≤ 2 * i ∧ 2 * i < 2 ^ m.b k) else decide (0 ≤ i ∧ i < 2 ^ m.b k)) = decide (m.low k ≤ i ∧ i ≤ m.high k) := by
  obtain ⟨b0, _⟩ := h.b k
  have e := p2s (n := m.b k) (by omega)
  have key1 : (0 - 2 ^ m.b k ≤ 2 * i ∧ 2 * i < 2 ^ m.b k) ↔ (-(2 ^ (m.b k - 1)) ≤ i ∧ i ≤ 2 ^ (m.b k - 1) - 1) := by
    rw [e]
    generalize (2 : Int) ^ (m.b k - 1) = x
    omega
  have key2 : (0 ≤ i ∧ i < (2 : Int) ^ m.b k) ↔ (0 ≤ i ∧ i ≤ 2 ^ m.b k - 1) := by
    generalize (2 : Int) ^ m.b k = x
    omega
  unfold Md.low Md.high
  cases m.un k
  · exact decide_eq_decide.mpr key1
  · exact decide_eq_decide.mpr key2
theorem ev_chLeLt {σ : L2.St} {H : Hp} {ta tb tc : TE} {a b c : Int} (ha : Ev ta σ H (.int a)) (hb : Ev tb σ H (.int b)) (hc : Ev tc σ H (.int c)) :
    Ev (tChain (rI0 fun i j => .bl (decide (i ≤ j))) (rI0 fun i j => .bl (decide (i < j))) ta tb tc) σ H (.bl (decide (a ≤ b ∧ b < c))) := fun H1 e Q q =>
  ha H1 e _ fun H2 e2 => hb H2 (e.trans e2) _ fun H3 e3 => ⟨a, b, rfl, rfl, _, rfl, by
    have e4 := (e.trans e2).trans e3
    by_cases h1 : a ≤ b
    · rw [decide_eq_true h1]
      refine iteT (hc H3 e4 _ fun H4 e5 => ⟨b, c, rfl, rfl, ?_⟩)
      have e6 : decide (b < c) = decide (a ≤ b ∧ b < c) := by
        by_cases h2 : b < c
        · rw [decide_eq_true h2, decide_eq_true ⟨h1, h2⟩]
        · rw [decide_eq_false h2, decide_eq_false fun z => h2 z.2]
      show Q (.bl (decide (b < c))) H4
      rw [e6]
      exact q H4 ((e2.trans e3).trans e5)
    · rw [decide_eq_false h1]
      refine iteF ?_
      have e6 : decide (a ≤ b ∧ b < c) = false := decide_eq_false fun z => h1 z.1
      rw [e6] at q
      exact q H3 (e2.trans e3)⟩
theorem ev_isi {K : PySem.W.Frag} {σ : L2.St} {H : Hp} {ta : TE} {i : Int} {n : String} {b : Bool} (ha : Ev ta σ H (.int i)) (hb : PySem.W.kitOne K (.type "int") (.type n) = some b) :
    Ev (tCB (rIsi K) (tCons ta (tCons (tC (.ty n)) tNil))) σ H (.bl b) := ev_cb (ea_cons ha (ea_cons ev_c ea_nil)) fun H1 _ Q1 q1 => ⟨.int i, .ty n, .type "int", .type n, b, rfl, .ty n, .base (.int i), hb, q1 H1 (Ex.refl H1)⟩
theorem drop_raw {σ : L2.St} {H : Hp} {te : TE} {tz : TS} {D : Ends} (h : te σ H fun _ H1 => tz D σ H1) : tSeq (tDrop te) tz D σ H := h
theorem app_raw {K : PySem.W.Frag} {σ : L2.St} {H : Hp} {i : Nat} {l : Addr} {xs : List V} {tr : TA} {Q : VK} (hi : σ[i]? = some (some (.ref l))) (hl : H l = some (.lst xs)) (h : tr σ H fun ys H2 => rAppend (.ref l) ys H2 Q) : tBM K "list" rAppend (tVar i) tr σ H Q :=
  ⟨.ref l, hi, .inl ⟨rfl, xs, sq_of hl⟩, h⟩
def spRightN (K : PySem.W.Frag) (c : Nat) : Sp := fun vs H Q _ => ∃ r p k m n, vs = [.ref r, .ref p, Kd.v k] ∧ AtM K H p m ∧ m.Ok ∧ n < 2 ^ 50 ∧ Rng H r n ∧ ∀ H', Bu r H H' → Rng H' r (n + c) → Q (.bl true) H'
example {K : PySem.W.Frag} : PySem.W.kitOne K (.type "int") (.type "bool") = some false := kit_ty (by decide +kernel)
end Cf

namespace Cf
open PySem PySem.Spec PyProof.Rows L2 Evl
/-! ## conversions behind one another; what common types hold -/
theorem Md.conv_dvd (m : Md) (h : m.Ok) (k : Kd) (i : Int) : (2 : Int) ^ m.b k ∣ m.conv k i - i := Int.dvd_of_emod_eq_zero (m.conv_mod h k i)
theorem Md.conv_eq (m : Md) (h : m.Ok) (k : Kd) {i y : Int} (h0 : m.low k ≤ y) (h1 : y ≤ m.high k) (hd : (2 : Int) ^ m.b k ∣ y - i) : m.conv k i = y := by
  obtain ⟨c0, c1⟩ := m.conv_in h k i
  have e := m.span h k
  have p := p2 (m.b k)
  obtain ⟨q1, e1⟩ := m.conv_dvd h k i
  obtain ⟨q2, e2⟩ := hd
  have e3 : m.conv k i - y = 2 ^ m.b k * (q1 - q2) := by
    rw [Int.mul_sub]
    omega
  have hq : q1 - q2 = 0 := by
    by_cases z : q1 - q2 ≥ 1
    · have := Int.mul_le_mul_of_nonneg_left z (Int.le_of_lt p)
      omega
    · by_cases z2 : q1 - q2 ≤ -1
      · have := Int.mul_le_mul_of_nonneg_left z2 (Int.le_of_lt p)
        omega
      · omega
  rw [hq, Int.mul_zero] at e3
  omega
theorem Md.conv_conv (m : Md) (h : m.Ok) (k : Kd) (i : Int) : m.conv k (m.conv k i) = m.conv k i :=
  m.conv_eq h k (m.conv_in h k i).1 (m.conv_in h k i).2 ⟨0, by omega⟩
theorem Md.conv_held (m : Md) (h : m.Ok) (k : Kd) (i : Int) : (m.low k ≤ i ∧ i ≤ m.high k) ↔ m.conv k i = i := by
  constructor
  · intro z
    exact m.conv_eq h k z.1 z.2 ⟨0, by omega⟩
  · intro z
    have := m.conv_in h k i
    rw [z] at this
    exact this
theorem Md.conv_less (m : Md) (h : m.Ok) {k l : Kd} (hb : m.b l ≤ m.b k) (i : Int) : m.conv l (m.conv k i) = m.conv l i := by
  refine m.conv_eq h l (m.conv_in h l i).1 (m.conv_in h l i).2 ?_
  have d1 := m.conv_dvd h l i
  have d2 : (2 : Int) ^ m.b l ∣ m.conv k i - i := Int.dvd_trans ⟨2 ^ (m.b k - m.b l), by rw [← Int.pow_add]; congr 1; omega⟩ (m.conv_dvd h k i)
  have d3 := Int.dvd_sub d1 d2
  have e : m.conv l i - i - (m.conv k i - i) = m.conv l i - m.conv k i := by omega
  rw [e] at d3
  exact d3
theorem Md.conv_sum (m : Md) (h : m.Ok) (k : Kd) (i j : Int) : m.conv k (m.conv k i + m.conv k j) = m.conv k (i + j) := by
  refine m.conv_eq h k (m.conv_in h k _).1 (m.conv_in h k _).2 ?_
  have d1 := m.conv_dvd h k (i + j)
  have d2 := Int.dvd_add (m.conv_dvd h k i) (m.conv_dvd h k j)
  have d3 := Int.dvd_sub d1 d2
  have e : m.conv k (i + j) - (i + j) - (m.conv k i - i + (m.conv k j - j)) = m.conv k (i + j) - (m.conv k i + m.conv k j) := by omega
  rw [e] at d3
  exact d3
theorem p2le {a b : Nat} (h : a ≤ b) : (2 : Int) ^ a ≤ 2 ^ b := by
  have e : ∀ n : Nat, (2 : Int) ^ n = ((2 ^ n : Nat) : Int) := fun n => by
    rw [Int.natCast_pow]
    rfl
  rw [e, e]
  exact_mod_cast Nat.pow_le_pow_right (by decide) h
theorem Md.Ok.wle {m : Md} (h : m.Ok) {i j : Nat} (hij : i ≤ j) : m.w i ≤ m.w j := by
  obtain ⟨h0, h1, h2, h3, h4, h5⟩ := h
  match i, j, hij with
  | 0, 0, _ => exact Nat.le_refl _
  | 0, 1, _ => simp only [Md.w]; omega
  | 0, 2, _ => simp only [Md.w]; omega
  | 0, 3, _ => simp only [Md.w]; omega
  | 0, n + 4, _ => simp only [Md.w]; omega
  | 1, 1, _ => exact Nat.le_refl _
  | 1, 2, _ => simp only [Md.w]; omega
  | 1, 3, _ => simp only [Md.w]; omega
  | 1, n + 4, _ => simp only [Md.w]; omega
  | 2, 2, _ => exact Nat.le_refl _
  | 2, 3, _ => simp only [Md.w]; omega
  | 2, n + 4, _ => simp only [Md.w]; omega
  | 3, 3, _ => exact Nat.le_refl _
  | 3, n + 4, _ => simp only [Md.w]; omega
  | k + 4, n + 4, _ => exact Nat.le_refl _
/-- b holds what a holds -/
def Md.In (m : Md) (a b : Kd) : Prop := m.high a ≤ m.high b ∧ m.low b ≤ m.low a
/-- b holds what a holds from 0 on -/
theorem Md.in_same (m : Md) {a b : Kd} (hs : m.un a = m.un b) (hb : m.b a ≤ m.b b) : m.In a b := by
  unfold Md.In Md.high Md.low
  rw [hs]
  have h1 := p2le hb
  have h2 := p2le (a := m.b a - 1) (b := m.b b - 1) (by omega)
  split <;> omega
theorem Md.in_us (m : Md) {u s : Kd} (hu : m.un u = true) (hs : m.un s = false) (hb : m.b u < m.b s) : m.In u s := by
  unfold Md.In Md.high Md.low
  rw [hu, hs]
  have h1 := p2le (a := m.b u) (b := m.b s - 1) (by omega)
  have h2 := p2 (m.b s - 1)
  simp
  omega
theorem Md.hi_su (m : Md) (h : m.Ok) {u s : Kd} (hu : m.un u = true) (hs : m.un s = false) (hb : m.b s ≤ m.b u) : m.high s ≤ m.high u := by
  unfold Md.high
  rw [hu, hs]
  have h1 := p2le (a := m.b s - 1) (b := m.b u) (by omega)
  simp
  omega
theorem Md.prom_in (m : Md) (h : m.Ok) (k : Kd) : m.In k (m.prom k) := by
  unfold Md.prom
  by_cases h2 : 2 ≤ k.rk
  · rw [if_pos h2]
    exact ⟨Int.le_refl _, Int.le_refl _⟩
  · rw [if_neg h2]
    have hw : m.b k ≤ m.b .it := h.wle (i := k.rk) (j := 2) (by omega)
    have hw2 : m.b k ≤ m.b .ui := hw
    by_cases h3 : m.un k = true ∧ m.b .it ≤ m.b k
    · rw [if_pos h3]
      exact m.in_same h3.1 hw2
    · rw [if_neg h3]
      cases hu : m.un k
      · exact m.in_same hu hw
      · exact m.in_us hu rfl (Nat.lt_of_not_le fun z => h3 ⟨hu, z⟩)
theorem uKd_un (m : Md) (r : Nat) : m.un (uKd r) = true := by
  match r with
  | 0 => rfl
  | 1 => rfl
  | 2 => rfl
  | 3 => rfl
  | _ + 4 => rfl
theorem uKd_b (m : Md) {r : Nat} (h : r ≤ 4) : m.b (uKd r) = m.w r := by
  match r, h with
  | 0, _ => rfl
  | 1, _ => rfl
  | 2, _ => rfl
  | 3, _ => rfl
  | 4, _ => rfl
theorem Md.mix_ok (m : Md) (h : m.Ok) {u s : Kd} (hu : m.un u = true) (hs : m.un s = false) :
    m.high u ≤ m.high (m.mix u s) ∧ m.high s ≤ m.high (m.mix u s) ∧ (m.un (m.mix u s) = false → m.low (m.mix u s) ≤ m.low u ∧ m.low (m.mix u s) ≤ m.low s) := by
  unfold Md.mix
  by_cases h1 : s.rk ≤ u.rk
  · rw [if_pos h1]
    exact ⟨Int.le_refl _, m.hi_su h hu hs (h.wle h1), fun z => by rw [hu] at z; cases z⟩
  · rw [if_neg h1]
    by_cases h2 : m.b u < m.b s
    · rw [if_pos h2]
      have hi := m.in_us hu hs h2
      exact ⟨hi.1, Int.le_refl _, fun _ => ⟨hi.2, Int.le_refl _⟩⟩
    · rw [if_neg h2]
      have eb : m.b (uKd s.rk) = m.b s := uKd_b m (by have := s.rk_lt; omega)
      have hle : m.b u ≤ m.b s := h.wle (i := u.rk) (j := s.rk) (by omega)
      refine ⟨(m.in_same (a := u) (b := uKd s.rk) (by rw [hu, uKd_un]) (by rw [eb]; exact hle)).1, m.hi_su h (uKd_un m _) hs (by rw [eb]; exact Nat.le_refl _), fun z => by rw [uKd_un] at z; cases z⟩
theorem Md.com2_ok (m : Md) (h : m.Ok) (a b : Kd) :
    m.high a ≤ m.high (m.com2 a b) ∧ m.high b ≤ m.high (m.com2 a b) ∧ (m.un (m.com2 a b) = false → m.low (m.com2 a b) ≤ m.low a ∧ m.low (m.com2 a b) ≤ m.low b) := by
  unfold Md.com2
  by_cases h1 : m.un a = m.un b
  · rw [if_pos h1]
    by_cases h2 : b.rk ≤ a.rk
    · rw [if_pos h2]
      have hi := m.in_same h1.symm (h.wle h2)
      exact ⟨Int.le_refl _, hi.1, fun _ => ⟨Int.le_refl _, hi.2⟩⟩
    · rw [if_neg h2]
      have hi := m.in_same h1 (h.wle (i := a.rk) (j := b.rk) (by omega))
      exact ⟨hi.1, Int.le_refl _, fun _ => ⟨hi.2, Int.le_refl _⟩⟩
  · rw [if_neg h1]
    cases hu : m.un a
    · have hb : m.un b = true := by
        cases hb : m.un b
        · rw [hu, hb] at h1
          exact absurd rfl h1
        · rfl
      rw [if_neg (by decide)]
      obtain ⟨x, y, z⟩ := m.mix_ok h hb hu
      exact ⟨y, x, fun w => (z w).symm⟩
    · have hb : m.un b = false := by
        cases hb : m.un b
        · rfl
        · rw [hu, hb] at h1
          exact absurd rfl h1
      rw [if_pos rfl]
      exact m.mix_ok h hu hb
theorem Md.com_ok (m : Md) (h : m.Ok) (k l : Kd) :
    m.high k ≤ m.high (m.com k l) ∧ m.high l ≤ m.high (m.com k l) ∧ (m.low (m.com k l) < 0 → m.low (m.com k l) ≤ m.low k) := by
  obtain ⟨x, y, z⟩ := m.com2_ok h (m.prom k) (m.prom l)
  have p1 := m.prom_in h k
  have p2' := m.prom_in h l
  refine ⟨Int.le_trans p1.1 x, Int.le_trans p2'.1 y, fun w => ?_⟩
  have hu : m.un (m.com2 (m.prom k) (m.prom l)) = false := by
    cases hu : m.un (m.com2 (m.prom k) (m.prom l))
    · rfl
    · have e : m.low (m.com k l) = 0 := by
        unfold Md.low Md.com
        rw [if_pos hu]
      omega
  exact Int.le_trans (z hu).1 p1.2
theorem Md.low_le (m : Md) (k : Kd) : m.low k ≤ 0 ∧ 0 ≤ m.high k := by
  unfold Md.low Md.high
  have h1 := p2 (m.b k)
  have h2 := p2 (m.b k - 1)
  split <;> omega
section
variable {K : PySem.W.Frag} {σ : L2.St} {H : Hp} {tl : TE} {xs : List V} {tu tz : TS} {D : Ends}
theorem q_forNT {j : Nat} (h : EvU tl σ H xs) (Pv : Addr → Nat → L2.St → Hp → Prop) (h0 : ∀ p H1, H p = none → Ex H H1 → H1 p = some (.tup xs) → Pv p 0 σ H1) (hl : ∀ p i σ' H', i ≤ xs.length → Pv p i σ' H' → SqT K H' p xs)
    (hs : ∀ p i x σ' H', xs[i]? = some x → Pv p i σ' H' → tu { D with nx := Pv p (i + 1), ct := Pv p (i + 1), bk := tz D } (σ'.set j (some x)) H') (hd : ∀ p σ' H', Pv p xs.length σ' H' → tz D σ' H') : tSeq (tFor (iTup K tl) (gName j) tu) tz D σ H :=
  h H (Ex.refl H) _ fun p H1 n1 e1 h1 => ⟨p, rfl, ⟨xs, st_of h1⟩, for_tup (D := { D with nx := tz D }) (Pv p) (h0 p H1 n1 e1 h1) (hl p) (hs p) (hd p)⟩
end
end Cf

namespace Cf
open PySem PySem.Spec PyProof.Rows L2 Evl
/-! ## == of dicts whose keys are tuples -/
section
variable {prog : Program} {w : World} {K : Type} [DecidableEq K] {knd : HeapKind prog w K} {A : Around} {E : Value → Shared → Prop} {s : Shared}
theorem samePairsH {nm : String} {a b : Addr} {ka kb : List (K × Addr × Value)} {Q : Bool → Shared → Prop} (hu : knd.room A) (ha : (a == sysModules) = false) (hb : (b == sysModules) = false)
    (da : s.heap.DictOfH knd a ka) (db : s.heap.DictOfH knd b kb) (hl : ka.length = kb.length)
    (hits : ∀ (i : Nat) (x : K × Addr × Value), ka[i]? = some x → (∃ (j : Nat) (p : Addr × Value), kb[j]? = some (x.1, p)) ∧ ∀ (j : Nat) (p : Addr × Value), kb[j]? = some (x.1, p) → SeqAt.EqAt A s x.2.2 p.2 true)
    (h : Q true s) : wpAny (model prog w) A (Builtin.Dict.samePairs nm a b) Q E s := by
  obtain ⟨oa, es, ep, hoa, _, hda, hea, hka, hna⟩ := da
  obtain ⟨ob, es', ep', hob, _, hdb, heb, hkb, hnb⟩ := db
  have hla : es.size = ka.length := size_of_entries hea
  have hlb : es'.size = kb.length := size_of_entries heb
  unfold Builtin.Dict.samePairs Builtin.Dict.showsAll
  rw [if_neg (show ¬ (a == sysModules) = true by rw [ha]; exact Bool.false_ne_true), if_neg (show ¬ (b == sysModules) = true by rw [hb]; exact Bool.false_ne_true)]
  refine wpAny_bind (wpAny_pure (wpAny_bind (wpAny_pure ?_)))
  refine wpAny_bind (wpAny_dictEntries hoa hda ?_)
  dsimp only
  refine wpAny_bind (wpAny_dictEntries hob hdb ?_)
  have hsz : es.size = es'.size := by omega
  rw [if_neg (by rw [hsz]; simp)]
  refine wpAny_bind (wpAny_dictEpoch hoa hda ?_)
  refine wpAny_bind ?_
  rw [Std.Legacy.Range.forIn_eq_forIn_range']
  simp only [Std.Legacy.Range.size, Nat.sub_zero, Nat.add_sub_cancel, Nat.div_one]
  refine wpAny_forIn_list _
    (fun rest q s' => s' = s ∧ q = (none, ()) ∧ ∃ i, rest = List.range' i (es.size - i) ∧ i ≤ es.size)
    _ ?_ ?_ _ _ ⟨rfl, rfl, 0, by simp, Nat.zero_le _⟩
  · rintro x rest q s' ⟨rfl, rfl, i, hr, hi⟩
    have hlt : i < es.size := by
      rcases Nat.lt_or_ge i es.size with h | h
      · exact h
      · rw [Nat.sub_eq_zero_of_le h] at hr; simp at hr
    obtain ⟨rfl, hrest⟩ : x = i ∧ rest = List.range' (i + 1) (es.size - (i + 1)) := by
      have e : es.size - i = (es.size - (i + 1)) + 1 := by omega
      rw [e, List.range'_succ] at hr
      injection hr with h1 h2
      exact ⟨h1, h2⟩
    refine wpAny_bind (wpAny_dictEntries hoa hda ?_)
    have hlt' : x < ka.length := by omega
    rw [entry_at hea x, List.getElem?_eq_getElem hlt']
    obtain ⟨⟨j0, p0, hj0⟩, hall⟩ := hits x ka[x] (List.getElem?_eq_getElem hlt')
    have hk := hka ka[x] (List.getElem_mem hlt')
    generalize ka[x] = y at hk hj0 hall ⊢
    show wpAny _ _ (holding [(entryOfKey knd y).key, (entryOfKey knd y).val] _ >>= _) _ _ _
    refine wpAny_bind (wpAny_holding (wpAny_bind (wpAny_dictFind_heap (k := y.1) (a := y.2.1) hu hk hob hdb heb hkb hnb (fun hn => absurd hj0 (hn _ _)) fun j p hj => ?_)))
    refine wpAny_bind (wpAny_dictEntries hob hdb ?_)
    rw [entry_at heb j, hj]
    refine wpAny_holding (hall j p hj prog w _ _ ?_)
    show wpAny _ _ (if (!true) = true then _ else _) _ _ _
    rw [if_neg (by decide)]
    refine wpAny_bind (wpAny_dictEpoch hoa hda ?_)
    rw [if_neg (by simp)]
    exact wpAny_pure ⟨rfl, rfl, x + 1, hrest, by omega⟩
  · rintro q s' ⟨rfl, rfl, i, hr, hi⟩
    exact wpAny_pure h
theorem keyed_ne {a b : Addr} {ka kb : List (K × Addr × Value)} {Q : Value → Shared → Prop} (hr : knd.room A.in1) (ha : (a == sysModules) = false) (hb : (b == sysModules) = false)
    (da : s.heap.DictOfH knd a ka) (db : s.heap.DictOfH knd b kb) (hu : A.units < cLine) (hl : ka.length = kb.length)
    (hits : ∀ (i : Nat) (x : K × Addr × Value), ka[i]? = some x → (∃ (j : Nat) (p : Addr × Value), kb[j]? = some (x.1, p)) ∧ ∀ (j : Nat) (p : Addr × Value), kb[j]? = some (x.1, p) → SeqAt.EqAt A.in1 s x.2.2 p.2 true)
    (h : Q (.bool false) s) : wpAny (model prog w) A (compareOp .NotEq (.ref a) (.ref b)) Q E s := by
  refine wpAny_richCompare_same_room (op := .NotEq) da.typeIs db.typeIs PySem.F.slot_dict_ne (wpAny_call_entry PySem.F.slot_dict_ne da.typeIs PySem.F.entry_dict_ne ?_ (PySem.F.args_dict_ne_2 _ _)) hu
  show wpAny _ _ (Builtin.Dict.dictSlotArgs "__ne__" ⟨[.ref a, .ref b], []⟩ >>= _) _ _ s
  refine wpAny_bind ?_
  unfold Builtin.Dict.dictSlotArgs
  refine wpAny_bind (wpAny_notOrdered_dict da.typeIs ?_)
  show wpAny _ _ (pure (Value.ref a, Value.ref b)) _ _ s
  refine wpAny_pure ?_
  refine wpAny_bind (wpAny_isInstance (T := "dict") db.typeIs PySem.F.sub_dict_dict ?_)
  simp only [Bool.not_true, Bool.false_eq_true, if_false]
  refine wpAny_bind (wpAny_pure (wpAny_bind (wpAny_pure ?_)))
  refine wpAny_bind (samePairsH hr ha hb da db hl hits ?_)
  refine wpAny_pure ⟨_, rfl, ?_, ?_⟩
  · exact fun x => nomatch x
  · simpa using h
end
theorem paired_at {α β : Type} {F : α → β → Prop} : ∀ {l₁ : List α} {l₂ : List β}, Paired F l₁ l₂ → ∀ {i : Nat} {b : β}, l₂[i]? = some b → ∃ a, l₁[i]? = some a ∧ F a b
  | _, _, .nil, _, _, h => nomatch h
  | _, _, .cons f r, 0, b, h => by
    obtain rfl := Option.some.inj h
    exact ⟨_, rfl, f⟩
  | _, _, .cons f r, i + 1, b, h => paired_at (i := i) r h
theorem paired_at1 {α β : Type} {F : α → β → Prop} : ∀ {l₁ : List α} {l₂ : List β}, Paired F l₁ l₂ → ∀ {i : Nat} {a : α}, l₁[i]? = some a → ∃ b, l₂[i]? = some b ∧ F a b
  | _, _, .nil, _, _, h => nomatch h
  | _, _, .cons f r, 0, b, h => by
    obtain rfl := Option.some.inj h
    exact ⟨_, rfl, f⟩
  | _, _, .cons f r, i + 1, b, h => paired_at1 (i := i) r h
theorem nd_at {α : Type} {l : List α} (h : l.Nodup) {i j : Nat} {a : α} (hi : l[i]? = some a) (hj : l[j]? = some a) : i = j := by
  obtain ⟨hi1, hi2⟩ := List.getElem?_eq_some_iff.mp hi
  obtain ⟨hj1, hj2⟩ := List.getElem?_eq_some_iff.mp hj
  have hp := List.pairwise_iff_getElem.mp h
  rcases Nat.lt_trichotomy i j with q | q | q
  · exact absurd (hi2.trans hj2.symm) (hp i j hi1 hj1 q)
  · exact q
  · exact absurd (hj2.trans hi2.symm) (hp j i hj1 hi1 q)
theorem nodup_at {α β : Type} {l : List (α × β)} (h : (l.map (·.1)).Nodup) {i j : Nat} {k : α} {x y : β} (hi : l[i]? = some (k, x)) (hj : l[j]? = some (k, y)) : i = j := by
  have hi' : (l.map (·.1))[i]? = some k := by rw [List.getElem?_map, hi]; rfl
  have hj' : (l.map (·.1))[j]? = some k := by rw [List.getElem?_map, hj]; rfl
  exact nd_at h hi' hj'
/-- != of two dicts with the same pairs, keys tuples, values texts -/
def rNeT : R2 := fun x y H Q => ∃ a b kvs, x = .ref a ∧ y = .ref b ∧ H a = some (.dT kvs) ∧ H b = some (.dT kvs) ∧ (∀ p ∈ kvs, ∃ z, p.2 = .str z) ∧ Q (.bl false) H
theorem op_neT {X : Cx} (hu : X.A.units + 1 < cLine) : OpR X (compareOp .NotEq) rNeT := by
  intro pins s σ H x y v u Q I rx ry h
  obtain ⟨a, b, kvs, rfl, rfl, ea, eb, hp, q⟩ := h
  obtain rfl : v = Value.ref a := rx
  obtain rfl : u = Value.ref b := ry
  obtain ⟨_, ya, xa, ra, da⟩ := dt_of I.hok ea
  obtain ⟨_, yb, xb, rb, db⟩ := dt_of I.hok eb
  have la := Paired.length ra
  have lb := Paired.length rb
  have nb : (xb.map (·.1)).Nodup := by
    obtain ⟨_, _, _, _, _, _, _, _, n⟩ := db
    exact n
  refine keyed_ne (tupleKind_room_in1 hu) ya yb da db (by omega) (la.symm.trans lb) (fun i x hx => ?_) ⟨.bl false, H, I, rfl, q⟩
  obtain ⟨p, hpi, e1, _, r1⟩ := paired_at ra hx
  obtain ⟨y, hy, f1, _, r2⟩ := paired_at1 rb hpi
  have ey : xb[i]? = some (x.1, y.2) := by
    rw [hy]
    congr 1
    exact Prod.ext (f1.symm.trans e1) rfl
  refine ⟨⟨i, y.2, ey⟩, fun j p' hj => ?_⟩
  obtain rfl : i = j := nodup_at nb ey hj
  obtain rfl : y.2 = p' := by
    rw [ey] at hj
    exact (Prod.mk.inj (Option.some.inj hj)).2
  obtain ⟨z, hz⟩ := hp p (List.mem_of_getElem? hpi)
  rw [hz] at r1 r2
  obtain ⟨t1, g1⟩ := (show ∃ t, x.2.2 = Value.str z t from r1)
  obtain ⟨t2, g2⟩ := (show ∃ t, y.2.2 = Value.str z t from r2)
  rw [g1, g2]
  have := PySem.W.keq_flat (A := X.A.in1) (s := s) (v := Value.str z t1) (y := Value.str z t2) (d := .str z) (e := .str z) (fun _ => Reads.str z t1) (fun _ => Reads.str z t2)
  simpa [PyData.eqv] using this

/-! ## the table of all common types -/
def prs : List (Kd × Kd) := Kd.all.flatMap fun k => Kd.all.map fun l => (k, l)
def keyOf (p : Kd × Kd) : List Key := [.inr p.1.s, .inr p.2.s]
def Md.ent (m : Md) (p : Kd × Kd) : List Key × V := (keyOf p, (m.com p.1 p.2).v)
def Md.tabN (m : Md) (n : Nat) : List (List Key × V) := (prs.take n).map m.ent
def Md.tab (m : Md) : List (List Key × V) := prs.map m.ent
theorem kd_s {k l : Kd} (h : k.s = l.s) : k = l := by
  have e := kd_eq k l
  have e2 : eqV k.v l.v = decide (k.s = l.s) := by cases k <;> cases l <;> rfl
  rw [e2, decide_eq_true h] at e
  exact of_decide_eq_true e.symm
theorem key_inj {p q : Kd × Kd} (h : keyOf p = keyOf q) : p = q := by
  obtain ⟨k, l⟩ := p
  obtain ⟨k2, l2⟩ := q
  unfold keyOf at h
  simp only [List.cons.injEq, Sum.inr.injEq, and_true] at h
  exact Prod.ext (kd_s h.1) (kd_s h.2)
theorem key_kV (k l : Kd) : (keyOf (k, l)).map kV = [k.v, l.v] := rfl
theorem mem_prs : ∀ (k l : Kd), (k, l) ∈ prs := fun k l => by cases k <;> cases l <;> decide +kernel
theorem prs_at (k l : Kd) : prs[11 * k.ix + l.ix]? = some (k, l) := by cases k <;> cases l <;> rfl
theorem prs_nodup : prs.Nodup := by decide +kernel
theorem prs_len : prs.length = 121 := by decide +kernel
theorem Md.tab_get (m : Md) (k l : Kd) : valV m.tab (keyOf (k, l)) = some (m.com k l).v := by
  have key : ∀ xs : List (Kd × Kd), (k, l) ∈ xs → valV (xs.map m.ent) (keyOf (k, l)) = some (m.com k l).v := by
    intro xs
    induction xs with
    | nil => intro h; exact nomatch h
    | cons x xs ih =>
      intro h
      by_cases e : x = (k, l)
      · subst e
        simp [valV, Md.ent]
      · have hk : keyOf x ≠ keyOf (k, l) := fun z => e (key_inj z)
        have := ih (by rcases List.mem_cons.mp h with z | z; exact absurd z.symm e; exact z)
        simpa [valV, Md.ent, hk] using this
  exact key prs (mem_prs k l)
theorem Md.tab_put (m : Md) {n : Nat} {p : Kd × Kd} (h : prs[n]? = some p) : putK (m.tabN n) (keyOf p) (m.com p.1 p.2).v = m.tabN (n + 1) := by
  obtain ⟨hn, e⟩ := List.getElem?_eq_some_iff.mp h
  have hno : ((m.tabN n).any fun kv => decide (kv.1 = keyOf p)) = false := by
    rw [List.any_eq_false]
    intro x hx
    obtain ⟨q, hq, rfl⟩ := List.mem_map.mp hx
    intro z
    have eq : q = p := key_inj (of_decide_eq_true z)
    subst eq
    obtain ⟨i, hi⟩ := List.mem_iff_getElem?.mp hq
    rw [List.getElem?_take] at hi
    split at hi
    · rename_i hlt
      have := nd_at prs_nodup hi h
      omega
    · exact nomatch hi
  unfold putK
  rw [hno, if_neg (by decide)]
  unfold Md.tabN
  rw [List.take_add_one, h, List.map_append]
  rfl
theorem Md.tab_str (m : Md) : ∀ p ∈ m.tab, ∃ z, p.2 = V.str z := by
  intro p hp
  obtain ⟨q, _, rfl⟩ := List.mem_map.mp hp
  exact ⟨_, rfl⟩
theorem Md.tab_all (m : Md) : m.tabN 121 = m.tab := by
  unfold Md.tabN Md.tab
  rw [← prs_len, List.take_length]
theorem Md.tabN_len (m : Md) (n : Nat) : (m.tabN n).length ≤ 121 := by
  unfold Md.tabN
  rw [List.length_map, List.length_take, prs_len]
  omega
end Cf

namespace Cf
open PySem PySem.Spec PyProof.Rows L2 Evl
/-! ## common types, finitely -/
/-- of two promoted types, by p: int is narrower than long; q: long is narrower than wide -/
def cm (p q : Bool) (a b : Kd) : Kd :=
  if a = b then a else match a, b with
  | .ui, .it => .ui | .it, .ui => .ui
  | .ui, .lo => if p then .lo else .ul | .lo, .ui => if p then .lo else .ul
  | .ui, .wi => if p || q then .wi else .uw | .wi, .ui => if p || q then .wi else .uw
  | .ul, .wi => if q then .wi else .uw | .wi, .ul => if q then .wi else .uw
  | .ul, .lo => .ul | .lo, .ul => .ul | .wi, .uw => .uw | .uw, .wi => .uw
  | a, b => if b.rk ≤ a.rk then a else b
theorem Md.com2_cm {m : Md} (o : m.Ok) {a b : Kd} (ha : a.big) (hb : b.big) : m.com2 a b = cm (decide (m.w2 < m.w3)) (decide (m.w3 < m.w4)) a b := by
  obtain ⟨h0, h1, h2, h3, h4, h5⟩ := o
  have e : (decide (m.w2 < m.w3) || decide (m.w3 < m.w4)) = decide (m.w2 < m.w4) := by
    by_cases x : m.w2 < m.w3 <;> by_cases y : m.w3 < m.w4 <;> simp [x, y] <;> omega
  rcases ha with rfl | rfl | rfl | rfl | rfl | rfl <;> rcases hb with rfl | rfl | rfl | rfl | rfl | rfl <;>
    simp [Md.com2, Md.mix, Md.un, Kd.rk, uKd, Md.b, Md.w, cm, e]
def bigs : List Kd := [.it, .ui, .lo, .ul, .wi, .uw]
theorem big_mem {k : Kd} (h : k.big) : k ∈ bigs := by
  rcases h with rfl | rfl | rfl | rfl | rfl | rfl <;> decide
theorem mem_big {k : Kd} (h : k ∈ bigs) : k.big := by
  unfold bigs at h
  unfold Kd.big
  simpa using h
theorem cm_facts : ([true, false].all fun p => [true, false].all fun q => bigs.all fun a => bigs.all fun b => decide (cm p q a b ∈ bigs) && bigs.all fun c => decide (cm p q (cm p q a b) c = cm p q a (cm p q b c))) = true := by decide +kernel
theorem cm_big (p q : Bool) {a b : Kd} (ha : a.big) (hb : b.big) : (cm p q a b).big := by
  have h := cm_facts
  simp only [List.all_eq_true] at h
  have h1 := h p (by cases p <;> decide) q (by cases q <;> decide) a (big_mem ha) b (big_mem hb)
  rw [Bool.and_eq_true] at h1
  exact mem_big (of_decide_eq_true h1.1)
theorem cm_assoc (p q : Bool) {a b c : Kd} (ha : a.big) (hb : b.big) (hc : c.big) : cm p q (cm p q a b) c = cm p q a (cm p q b c) := by
  have h := cm_facts
  simp only [List.all_eq_true] at h
  have h1 := h p (by cases p <;> decide) q (by cases q <;> decide) a (big_mem ha) b (big_mem hb)
  rw [Bool.and_eq_true, List.all_eq_true] at h1
  exact of_decide_eq_true (h1.2 c (big_mem hc))
theorem cm_self (p q : Bool) (a : Kd) : cm p q a a = a := by
  unfold cm
  rw [if_pos rfl]
theorem Md.prom_of_big (m : Md) {k : Kd} (h : k.big) : m.prom k = k := by
  unfold Md.prom
  rw [if_pos (big_rk h).1]
section
variable {m : Md} (o : m.Ok)
include o
theorem Md.com_cm (k l : Kd) : m.com k l = cm (decide (m.w2 < m.w3)) (decide (m.w3 < m.w4)) (m.prom k) (m.prom l) := m.com2_cm o (m.prom_big k) (m.prom_big l)
theorem Md.com_big (k l : Kd) : (m.com k l).big := by
  rw [m.com_cm o]
  exact cm_big _ _ (m.prom_big k) (m.prom_big l)
theorem Md.com_self (k : Kd) : m.com k k = m.prom k := by
  rw [m.com_cm o, cm_self]
theorem Md.com_assoc (k l t : Kd) : m.com (m.com k l) t = m.com k (m.com l t) := by
  rw [m.com_cm o (m.com k l) t, m.prom_of_big (m.com_big o k l), m.com_cm o k (m.com l t), m.prom_of_big (m.com_big o l t), m.com_cm o k l, m.com_cm o l t]
  exact cm_assoc _ _ (m.prom_big k) (m.prom_big l) (m.prom_big t)
theorem Md.com_l (k l : Kd) : m.com (m.com k l) l = m.com k l := by
  rw [m.com_assoc o, m.com_self o, m.com_cm o k (m.prom l), m.prom_of_big (m.prom_big l), ← m.com_cm o]
theorem Md.com_k (k l : Kd) : m.com (m.com k l) k = m.com k l := by
  rw [m.com_comm k l]
  exact m.com_l o l k
theorem Md.com_up {k l t : Kd} (h1 : m.com t k = t) (h2 : m.com t l = t) : m.com t (m.com k l) = t := by
  rw [← m.com_assoc o, h1, h2]
end
/-- wider by steps that stay where neighbours are equal -/
structure Md.Like (m n : Md) : Prop where
  u : n.u = m.u
  e0 : (m.w0 < m.w1 ↔ n.w0 < n.w1)
  e1 : (m.w1 < m.w2 ↔ n.w1 < n.w2)
  e2 : (m.w2 < m.w3 ↔ n.w2 < n.w3)
  e3 : (m.w3 < m.w4 ↔ n.w3 < n.w4)
theorem Md.Like.un {m n : Md} (h : m.Like n) (k : Kd) : n.un k = m.un k := by
  cases k <;> simp [Md.un, h.u]
theorem Md.Like.prom {m n : Md} (h : m.Like n) (o : m.Ok) (o2 : n.Ok) (k : Kd) : n.prom k = m.prom k := by
  obtain ⟨hu, e0, e1, e2, e3⟩ := h
  obtain ⟨h0, h1, h2, h3, h4, h5⟩ := o
  obtain ⟨g0, g1, g2, g3, g4, g5⟩ := o2
  have c0 : m.w2 ≤ m.w0 ↔ n.w2 ≤ n.w0 := by omega
  have c1 : m.w2 ≤ m.w1 ↔ n.w2 ≤ n.w1 := by omega
  cases k <;> simp [Md.prom, Md.un, Kd.rk, Md.b, Md.w, hu, c0, c1]
theorem Md.Like.com {m n : Md} (h : m.Like n) (o : m.Ok) (o2 : n.Ok) (k l : Kd) : n.com k l = m.com k l := by
  rw [n.com_cm o2, m.com_cm o, h.prom o o2, h.prom o o2]
  have e2 : decide (n.w2 < n.w3) = decide (m.w2 < m.w3) := decide_eq_decide.mpr h.e2.symm
  have e3 : decide (n.w3 < n.w4) = decide (m.w3 < m.w4) := decide_eq_decide.mpr h.e3.symm
  rw [e2, e3]
theorem Md.Like.tab {m n : Md} (h : m.Like n) (o : m.Ok) (o2 : n.Ok) : n.tab = m.tab := by
  unfold Md.tab
  refine List.map_congr_left fun p _ => ?_
  unfold Md.ent
  rw [h.com o o2]
/-! ### readings -/
def EvD (te : TE) (σ : L2.St) (H : Hp) (kvs : List (List Key × V)) : Prop := ∀ H1, Ex H H1 → ∀ Q : VK, (∀ p H2, H1 p = none → Ex H1 H2 → H2 p = some (.dT kvs) → Q (.ref p) H2) → te σ H1 Q
def spTab (K : PySem.W.Frag) : Sp := fun vs H Q _ => ∃ p m, vs = [.ref p] ∧ AtM K H p m ∧ m.Ok ∧ ∀ D H', H D = none → Ex H H' → H' D = some (.dT m.tab) → Q (.ref D) H'
section
variable {K : PySem.W.Frag} {σ : L2.St} {H : Hp} {ta tb tc tv : TE} {tk : TA} {tz : TS} {D : Ends} {a p : Addr} {kvs : List (List Key × V)} {k : List Key} {v : V} {m : Md}
theorem ev_tab (h : EvA tk σ H [.ref p]) (hm : AtM K H p m) (o : m.Ok) : EvD (tCall (spTab K) [] E0 tk) σ H m.tab := fun H1 e Q q =>
  h H1 e _ fun H2 e2 => ⟨p, m, rfl, hm.ex (e.trans e2), o, fun q2 H3 n e3 h3 => q q2 H3 (fresh_back e2 n) (e2.trans e3) h3⟩
theorem ev_dget (ha : Ev ta σ H (.ref a)) (hk : EvU tb σ H (k.map kV)) (h : H a = some (.dT kvs)) (hv : valV kvs k = some v) : Ev (tDGet ta tb) σ H v := fun H1 e Q q =>
  ha H1 e _ fun H2 e2 => hk H2 (e.trans e2) _ fun p H3 np e3 h3 => ⟨a, v, rfl, by
    have g := DGet.t (k := k) (e3 _ _ (e2 _ _ (e _ _ h))) h3
    rw [hv] at g
    exact g, q H3 (e2.trans e3)⟩
/-- table[k, l] -/
theorem ev_tget {k l : Kd} (ha : Ev ta σ H (.ref a)) (hb : Ev tb σ H k.v) (hc : Ev tc σ H l.v) (h : H a = some (.dT m.tab)) : Ev (tDGet ta (tTup (tCons tb (tCons tc tNil)))) σ H (m.com k l).v :=
  ev_dget (k := keyOf (k, l)) ha (eu_tup (ea_cons hb (ea_cons hc ea_nil)) (by show 2 ≤ 100000; decide)) h (m.tab_get k l)
theorem s_dput (hv : Ev tv σ H v) (ho : Ev ta σ H (.ref a)) (hk : EvU tb σ H (k.map kV)) (h : H a = some (.dT kvs)) (hl : kvs.length < 100000) (n : ∀ H1, Ex H H1 → D.nx σ (upd H1 a (.dT (putK kvs k v)))) : sDPut ta tb tv D σ H :=
  hv H (Ex.refl H) _ fun H1 e1 => ho H1 e1 _ fun H2 e2 => hk H2 (e1.trans e2) _ fun p H3 np e3 h3 => ⟨a, _, rfl, DPut.t (k := k) (e3 _ _ (e2 _ _ (e1 _ _ h))) h3 (sz_lt hl), n H3 ((e1.trans e2).trans e3)⟩
theorem ev_neDD {xs ys : List (List Key × V)} (ha : EvD ta σ H xs) (hb : EvD tb σ H ys) (e : xs = ys) (hs : ∀ p ∈ xs, ∃ z, p.2 = V.str z) : Ev (tOp rNeT ta tb) σ H (.bl false) := by
  subst e
  exact fun H1 e Q q => ha H1 e _ fun p H2 np e2 h2 => hb H2 (e.trans e2) _ fun p2 H3 np2 e3 h3 => ⟨p, p2, xs, rfl, rfl, e3 _ _ h2, h3, hs, q H3 (e2.trans e3)⟩
end
end Cf
namespace Cf
open PySem PySem.Spec PyProof.Rows L2 Evl
/-- widths so far, each with what was added, which ascends and stays where neighbours are equal -/
def Wd (m : Md) (d : Int) : Nat → List Int → Int → Prop
  | 0, xs, b => xs = [] ∧ b = 0
  | i + 1, xs, b => ∃ ys c, xs = ys ++ [(m.w i : Int) + b] ∧ Wd m d i ys c ∧ c ≤ b ∧ b ≤ c + d ∧ (i ≠ 0 → m.w i = m.w (i - 1) → b = c)
def spWider (K : PySem.W.Frag) : Sp := fun vs H Q _ => ∃ r p m n, vs = [.ref r, .ref p] ∧ AtM K H p m ∧ m.Ok ∧ n < 2 ^ 50 ∧ Rng H r n ∧
  ∀ p' H' m', Bu r H H' → Rng H' r (n + 5) → AtM K H' p' m' → m.Like m' → m'.Ok → Q (.ref p') H'
theorem Wd.end_ {m : Md} (o : m.Ok) {xs : List Int} {b : Int} (h : Wd m ((128 - (m.w4 : Int)) / 5) 5 xs b) : ∃ n : Md, n.ns = xs ∧ n.u = m.u ∧ m.Like n ∧ n.Ok := by
  obtain ⟨_, b4, rfl, ⟨_, b3, rfl, ⟨_, b2, rfl, ⟨_, b1, rfl, ⟨_, b0, rfl, ⟨rfl, rfl⟩, a0, c0, _⟩, a1, c1, d1⟩, a2, c2, d2⟩, a3, c3, d3⟩, a4, c4, d4⟩ := h
  have d1 := d1 (by decide)
  have d2 := d2 (by decide)
  have d3 := d3 (by decide)
  have d4 := d4 (by decide)
  simp only [Md.w] at d1 d2 d3 d4
  have d1 : m.w1 = m.w0 → _ := d1
  have d2 : m.w2 = m.w1 → _ := d2
  have d3 : m.w3 = m.w2 → _ := d3
  have d4 : m.w4 = m.w3 → _ := d4
  obtain ⟨h0, h1, h2, h3, h4, h5⟩ := o
  refine ⟨⟨(m.w0 + b1).toNat, (m.w1 + b2).toNat, (m.w2 + b3).toNat, (m.w3 + b4).toNat, (m.w4 + b).toNat, m.u⟩, ?_, rfl, ⟨rfl, ?_, ?_, ?_, ?_⟩, ⟨?_, ?_, ?_, ?_, ?_, ?_⟩⟩
  · show [(((m.w0 : Int) + b1).toNat : Int), (((m.w1 : Int) + b2).toNat : Int), (((m.w2 : Int) + b3).toNat : Int), (((m.w3 : Int) + b4).toNat : Int), (((m.w4 : Int) + b).toNat : Int)] = [(m.w0 : Int) + b1, (m.w1 : Int) + b2, (m.w2 : Int) + b3, (m.w3 : Int) + b4, (m.w4 : Int) + b]
    rw [Int.toNat_of_nonneg (by omega), Int.toNat_of_nonneg (by omega), Int.toNat_of_nonneg (by omega), Int.toNat_of_nonneg (by omega), Int.toNat_of_nonneg (by omega)]
  all_goals (dsimp only; omega)
theorem ev_ww {K : PySem.W.Frag} {σ : L2.St} {H : Hp} {p : Addr} {m : Md} {i j : Nat} {tj : TE} (hm : AtM K H p m) (hi : σ[i]? = some (some (.ref p))) (hj : j < 5) (h : Ev tj σ H (.int (j : Nat))) :
    Ev (tOp (rIxT K) (tOp (rIxT K) (tVar i) (tC (.int 0))) tj) σ H (.int (m.w j : Nat)) := by
  obtain ⟨q, a, b⟩ := hm
  exact ev_op (ev_op (ev_var hi) ev_c (rv_ixT a (atI_nat (j := 0) rfl))) h (rv_ixT b (atI_nat (Md.at_ hj)))
theorem par_raw {ta : TA} {tz : TS} {D : Ends} {i j : Nat} {σ : L2.St} {H : Hp} (h : ta σ H fun vs H1 => ∃ v w, vs = [v, w] ∧ tz D ((σ.set i (some v)).set j (some w)) H1) : tSeq (tPar i j ta) tz D σ H := h
theorem ea_atD {te : TE} {tr : TA} {σ : L2.St} {H : Hp} {xs : List (List Key × V)} {Q : List V → Hp → Prop} (h : EvD te σ H xs) (k : ∀ p H1, H p = none → Ex H H1 → H1 p = some (.dT xs) → tr σ H1 fun ys H2 => Q (.ref p :: ys) H2) : tCons te tr σ H Q := h H (Ex.refl H) _ k
end Cf

namespace Cf
open PySem PySem.Spec PyProof.Rows L2 Evl
/-! ## an exception that outlives its except suite -/
/-- at a: an exception that was caught, of the class cls, its dict d -/
def exk (a : Addr) (cls : Value) (d : Option Addr) : HO := .ext fun h => ∃ oe : Obj, h.get? a = some oe ∧ Zc cls d oe ∧ ∃ vs, oe.data = .fields vs
theorem exk_ok {P : Program} {w : World} {H : Hp} {h : Heap} {a : Addr} {cls : Value} {d : Option Addr} {oe : Obj} (e : h.get? a = some oe) (z : Zc cls d oe) (f : ∃ vs, oe.data = .fields vs) : ObjOk P w H h a (exk a cls d) :=
  ⟨⟨oe, e, z, f⟩, ⟨oe, e⟩, fun h1 h2 x k => by
    obtain ⟨o, p, q⟩ := x
    exact ⟨o, k _ p, q⟩⟩
section
variable {X : Cx} {pins : List (Addr × Obj)} {σ : L2.St} {H : Hp} {s : Shared}
/-- an untracked object that was not there at the entry is tracked from here on -/
theorem track {a : Addr} {o : HO} (I : Inv X pins σ H s) (hn : H a = none) (n0 : X.s_0.heap.get? a = none) (nL : a ≠ X.env.locals) (nC : ∀ x c, X.env.cells.lookup x = some c → c ≠ a) (np : ∀ p ∈ X.pn ++ pins, p.1 ≠ a)
    (new : ObjOk X.prog X.w (upd H a o) s.heap a o) : Inv X pins σ (upd H a o) s where
  ok := I.ok
  os := I.os
  bare := I.bare
  base := ⟨I.base.keep, I.base.slot, fun b u q n x => by
      rw [upd_ne (fun z => by rw [z, n0] at q; cases q)]
      exact I.base.free b u q n x, I.base.there, fun b xs q => by
      have := I.base.tups b xs q
      rw [upd_ne (ne_of_none this hn)]
      exact this, fun b u xs q => by
      have := I.base.frzs b u xs q
      rw [upd_ne (ne_of_none this hn)]
      exact this, fun b ps q => by
      obtain ⟨m, e⟩ := I.base.tbls b ps q
      exact ⟨m, by rw [upd_ne (ne_of_none e hn)]; exact e⟩⟩
  loc := I.loc
  cell := I.cell
  free := by rw [upd_ne (Ne.symm nL)]; exact I.free
  freeC := fun x c e => by rw [upd_ne (nC x c e)]; exact I.freeC x c e
  pin := fun p hp => by
    obtain ⟨e1, e2, e3⟩ := I.pin p hp
    exact ⟨e1, by rw [upd_ne (np p hp)]; exact e2, e3⟩
  hok := I.hok.laidN (fun _ _ q => q) hn new
  len := I.len
end
/-- 'except x as n' whose suite runs to its end: the exception stays known behind it -/
def wKeep (K : PySem.W.Frag) (c : Value) (i : Nat) (ts : Addr → Value → Option Addr → TS) (Wout : WX) (D : Ends) : WX := fun cls d σ H =>
  ∃ b, PySem.W.exmOne K cls c = some b ∧ (b = true → ∀ a, H a = none → ts a cls d { nx := fun σ' H' => D.nx (σ'.set i none) (upd H' a (exk a cls d)), rt := fun _ _ => False, bk := fun _ _ => False, ct := fun _ _ => False } (σ.set i (some (.ref a))) H) ∧
    (b = false → Wout cls d σ H)
section
variable {X : Cx} {x n : Str} {c : Value} {i : Nat} {body suite : List Stmt} {b₀ : Stmt} {np pos pos' : Pos} {tb : WX → TS} {ts : Addr → Value → Option Addr → TS} {Wout : WX}
theorem ps_try_keep (hs : X.stack = X.env :: X.outer) (hf : X.env.frame = some X.env.locals) (hex : X.ex = []) (hN : X.N.Nodup) (hi : X.N[i]? = some n) (hln : X.env.kindOf n = some .local) (hc : Names X x c) (tk : Takes X Wout)
    (hb : ∀ (W : WX) (pn : List (Addr × Obj)) (xe : Value → Shared → Prop), Takes (X.tr pn xe) W → PassesOwn (model X.prog X.w) X.A X.env xe → PSs (X.tr pn xe) body (tb W))
    (hsu : ∀ (a : Addr) (oe : Obj) (cls : Value) (d : Option Addr) (pn : List (Addr × Obj)), Zc cls d oe → (∃ vs, oe.data = .fields vs) → PSs (X.suite a ((a, oe) :: pn)) (b₀ :: suite) (ts a cls d)) :
    PS X (.Try body [.ExceptHandler (some (.Name x np)) (some n) (b₀ :: suite) pos'] [] [] pos) (fun D σ H => tb (wKeep X.K c i ts Wout D) D σ H) := by
  refine ⟨fun pins s σ H D I h => ?_⟩
  have ok := I.ok
  have hfr : X.A.frames = some (X.env :: X.outer) := by rw [ok.frames, hs]
  refine wpAny_Try_except (wpAny_mono ((hb (wKeep X.K c i ts Wout D) (X.pn ++ pins) (fun e s₁ => wpAny (model X.prog X.w) X.A (noteFrame e X.env) (fun _ s₂ => wpAny (model X.prog X.w) X.A (setFlight e none) (fun _ s₃ =>
    wpAny (model X.prog X.w) X.A (handleBy e X.env [.ExceptHandler (some (.Name x np)) (some n) (b₀ :: suite) pos']) (SP X pins D) X.xe s₃) X.xe s₂) X.xe s₁) (fun u s' xx => ?_) PassesOwn.looking).run [] s σ H D (I.toTry _) h) (fun f s1 hsp => ?_) (fun e s1 he => he))
  · obtain ⟨a, B, sI, pins', σ', H', cls, d, rfl, J', nb, up, sky, na, os, ag, b, hb1, hyes, hno⟩ := xx
    have J : Inv X pins σ' H' sI := J'.ofTry ok
    show wpAny (model X.prog X.w) X.A (noteFrame (.ref a) X.env) _ _ _
    refine Sky.land Zc.steady hfr hf (by rw [← hs]; exact sky) fun h3 fl3 up3 => ?_
    have J3 : Inv X pins σ' H' { s' with heap := h3 } := J.landed nb fl3.1 (up.trans up3) os ag
    obtain ⟨oe3, vs3, he3, hz3, hd3⟩ := fl3.there
    have nfr : a ∉ frs (X.env :: X.outer) := fun hm => by
      obtain ⟨_, o', e', hnf⟩ := fl3.2.2.1.mem hm
      rw [he3] at e'
      cases e'
      exact hnf _ hd3
    have nL : a ≠ X.env.locals := fun z => nfr (List.mem_filterMap.mpr ⟨X.env, List.mem_cons_self, by rw [hf, z]⟩)
    have nF : a ∉ X.fs := fun hm => by
      obtain ⟨e, he, q⟩ := List.mem_filterMap.mp hm
      exact nfr (List.mem_filterMap.mpr ⟨e, List.mem_cons_of_mem _ he, q⟩)
    have nI : sI.heap.get? a = none := by
      cases q : sI.heap.get? a with
      | none => rfl
      | some o =>
        have z := nb a o q (by rw [hs]; exact nfr)
        rw [fl3.2.1] at z
        cases z
    have n0 : X.s_0.heap.get? a = none := by
      cases q : X.s_0.heap.get? a with
      | none => rfl
      | some o =>
        obtain ⟨o', z⟩ := J.base.there a o q (by rw [hex]; exact fun z => nomatch z)
        rw [nI] at z
        cases z
    have S3 := J3.suite he3 hd3 na nL nF
    refine wpAny_handleBy_cons (codeAny_handlers_test ?_) (by intro q; cases q)
    have LM := PySem.W.exm_one (M := model X.prog X.w) (J3.kIn) (fun A Q E s k q => wpAny_typeOf_ref (k _ _ he3) (by rw [hz3.1]; exact q)) hb1
    have test : ∀ {Q : Value → Shared → Prop} {E : Value → Shared → Prop}, Q c { s' with heap := h3 } → wpAny (model X.prog X.w) (X.A.mark (some (.ref a))) (eval (.Name x np) X.env) Q E { s' with heap := h3 } := fun {Q E} q => by
      obtain ⟨hg, hdbg, hm | ⟨hm, hv, hnn⟩⟩ := hc
      · exact ld_glob (X := X.suite a ((a, oe3) :: (X.pn ++ pins))) S3 hg hm q hdbg
      · exact ld_blt (X := X.suite a ((a, oe3) :: (X.pn ++ pins))) S3 hg hm hv q hnn hdbg
    refine test (LM.here ?_)
    cases b with
    | true =>
      refine codeAny_handlers_suite_as (HandSPX.lands_againZ fl3 fun h4 fl4 up4 => ?_)
      have J4 : Inv X pins σ' H' { s' with heap := h4 } := J.landed nb fl4.1 ((up.trans up3).trans up4) os ag
      obtain ⟨oe4, vs4, he4, hz4, hd4⟩ := fl4.there
      have S4 := J4.suite he4 hd4 na nL nF
      refine store_ok (X := X.suite a ((a, oe4) :: (X.pn ++ pins))) (v := .ref a) S4 hN hi (.inl hln) rfl (fun s5 S5 => ?_) (.inr hln)
      refine wpAny_mono ((hsu a oe4 cls d (X.pn ++ pins) hz4 ⟨_, hd4⟩).run [] s5 _ H' _ S5 (hyes rfl a na)) (fun f s6 hsp => ?_) (fun _ _ z => False.elim z)
      cases f with
      | next =>
        obtain ⟨σ6, H6, S6, q6⟩ := hsp
        obtain ⟨p1, p2, _⟩ := S6.pin (a, oe4) (List.mem_append_left _ List.mem_cons_self)
        have T6 := track (o := exk a cls d) (S6.unsuite ok) p2 n0 nL (fun y c' e z => by
          obtain ⟨v, o, ho, _⟩ := J.cell y c' e
          rw [z, nI] at ho
          cases ho) (fun p hp z => by
          obtain ⟨e1, _⟩ := J.pin p hp
          rw [z, nI] at e1
          cases e1) (exk_ok p1 hz4 ⟨_, hd4⟩)
        exact gone_ok T6 hN hi hln fun s7 J7 => ⟨_, _, J7, q6⟩
      | brk =>
        obtain ⟨_, _, _, q6⟩ := hsp
        exact q6.elim
      | cont =>
        obtain ⟨_, _, _, q6⟩ := hsp
        exact q6.elim
      | ret u =>
        obtain ⟨_, _, _, _, _, q6⟩ := hsp
        exact q6.elim
    | false =>
      show wpAny _ X.A (handleBy (.ref a) X.env []) _ _ _
      refine wpAny_handleBy_nil ?_
      obtain ⟨k1, k2, k3, oe, vs, T, oT, ts', he, hz, hd, h1, hr⟩ := id fl3
      unfold PySem.passOn
      refine wpAny_bind (wpAny_field he hd h1 ?_)
      rw [if_neg (show ¬ ((Value.ref T == Value.none) = true) from by simp)]
      have fin : wpAny (model X.prog X.w) X.A (setFlight (.ref a) X.env.frame) (fun _ s4 => wpAny (model X.prog X.w) X.A (throw (.ref a) : Sem Flow) (SP X pins D) X.xe s4) X.xe { s' with heap := h3 } := by
        rw [hf]
        exact HandSPX.setFlight_upZ fl3 fun h4 hh4 up4 => wpAny_throw (tk _ _ ⟨a, B, sI, pins, σ', H', cls, d, rfl, J, nb, (up.trans up3).trans up4, .inr (.inr (by rw [hs]; exact hh4)), na, os, ag, hno rfl⟩)
      first
        | exact wpAny_bind (wpAny_pure (wpAny_bind fin))
        | exact wpAny_bind fin
  · cases f with
    | next =>
      obtain ⟨σ', H', J', q⟩ := hsp
      exact wpAny_execs_nil ⟨σ', H', J'.ofTry ok, q⟩
    | brk =>
      obtain ⟨σ', H', J', q⟩ := hsp
      exact ⟨σ', H', J'.ofTry ok, q⟩
    | cont =>
      obtain ⟨σ', H', J', q⟩ := hsp
      exact ⟨σ', H', J'.ofTry ok, q⟩
    | ret u =>
      obtain ⟨v, σ', H', J', r, q⟩ := hsp
      exact ⟨v, σ', H', J'.ofTry ok, r, q⟩
end
end Cf

namespace Cf
open PySem PySem.Spec PyProof.Rows L2 Evl
/-! ## own exceptions with one field -/
def vVal : Str := "value"
/-- what is said of the class x at C, its __init__ at fI -/
structure XC (K : PySem.W.Frag) (mg : Str → Option Value) (x : Str) (C fI : Addr) : Prop where
  g : mg x = some (.ref C)
  o : OexC K C
  e : ExcC K C
  no : PySem.W.findIn K (.ref C) vVal = some none
  iC : PySem.W.findIn K (.ref C) "__init__" = some (some (.ref fI))
  tI : PySem.W.typeIn K (.ref fI) = some (.type "function")
/-- __init__(self, value): self.value = value -/
def spInit (K : PySem.W.Frag) : Sp := fun vs H Q _ => ∃ a v C, vs = [.ref a, v] ∧ OexC K C ∧ PySem.W.findIn K (.ref C) vVal = some none ∧ H a = some (exo a C none) ∧
  ∀ dx, H dx = none → dx ≠ a → Q .non (upd (upd H dx (exd dx [(vVal, v)])) a (exo a C (some dx)))
/-- the class with its __init__ as a def -/
def Xi (P : Program) (w : World) (K : PySem.W.Frag) (mg : Str → Option Value) (base : Heap) (x : Str) (C : Addr) : Prop :=
  ∃ fI fd, XC K mg x C fI ∧ FnOk P w K mg base CX0 1 fI fd ["self", "value"] (spInit K) ∧ Binds K fd ["self", "value"] []
/-- a new exception of the class C with v is handed to E -/
def Out (C : Addr) (v : V) (H : Hp) (E : XK) : Prop := ∀ d H', H d = none → Ex H H' → H' d = some (.xd [(vVal, v)]) → E (.ref C) (some d) H'
theorem Out.ex {C : Addr} {v : V} {H H1 : Hp} {E : XK} (h : Out C v H E) (e : Ex H H1) : Out C v H1 E := fun d H' n e2 q => h d H' (fresh_back e n) (e.trans e2) q
def wide (ta : TA) : TA := fun σ H Q => ∃ Q0 : List V → Hp → Prop, ta σ H Q0 ∧ ∀ vs H1, Q0 vs H1 → Q vs H1
theorem pa_wide {X : Cx} {es : List Expr} {ta : TA} (h : PA X es ta) : PA X es (wide ta) := ⟨fun pos pins s σ H Q I q => by
  obtain ⟨Q0, h0, k⟩ := q
  refine wpAny_mono (h.run pos pins s σ H Q0 I h0) (fun us s1 hh => ?_) fun _ _ x => x
  obtain ⟨vs, H1, I1, r, z⟩ := hh
  exact ⟨vs, H1, I1, r, k _ _ z⟩⟩
/-- raise X(e) -/
def tRz (C : Addr) (W : WX) (ta : TA) : TS := fun _ σ H => ta σ H fun vs H1 => ∃ v, vs = [v] ∧ Out C v H1 fun c d H' => W c d σ H'
theorem tMk_of {K : PySem.W.Frag} {C : Addr} {ta : TA} {σ : L2.St} {H : Hp} {Q : XK} (o : OexC K C) (no : PySem.W.findIn K (.ref C) vVal = some none) (h : ta σ H fun vs H1 => ∃ v, vs = [v] ∧ Out C v H1 Q) : tMkO C (spInit K) [] (wide ta) σ H Q := by
  refine ⟨_, h, fun vs H1 z => ?_⟩
  obtain ⟨v, rfl, hO⟩ := z
  refine ⟨by show 1 ≤ 1000; decide, fun a na => ?_⟩
  refine ⟨a, v, C, rfl, o, no, upd_same, fun dx ndx nea => ⟨rfl, dx, [(vVal, v)], upd_same, by rw [upd_ne nea, upd_same], ?_, ?_⟩⟩
  · rw [upd_ne nea] at ndx
    exact ndx
  · rw [upd_ne nea] at ndx
    refine hO dx _ ndx (fun b o q => ?_) upd_same
    have nb : b ≠ a := fun z => by rw [z, na] at q; cases q
    have nd : b ≠ dx := fun z => by rw [z, ndx] at q; cases q
    rw [upd_ne nd, del_ne nb, upd_ne nb, upd_ne nd, upd_ne nb]
    exact q
section
variable {X : Cx} {x : Str} {C : Addr} {e : Expr} {ta : TA} {p pos pos2 : Pos}
theorem pmk_z {k : Nat} (T : Xi X.prog X.w X.K X.mg X.base x C) (hr : Room k X.A) (ha : PA X [e] ta) (hg : Gl X x) (hk : 2 ≤ k := by decide) (hdb : (x == ("__debug__" : Str)) = false := by decide)
    (he : starEach (e :: []) X.env = (false, eval e X.env) :: starEach [] X.env := by rfl) (hpl : (backTo pos (starEach [] X.env)).any (·.1) = false := by rfl) :
    PMk X (.Call (.Name x p) [e] [] pos) (fun σ H Q => ta σ H fun vs H1 => ∃ v, vs = [v] ∧ Out C v H1 Q) := by
  obtain ⟨fI, fd, T, F, hb⟩ := T
  have h := pmk_oex (CX := CX0) (p := p) T.o T.iC T.tI F (hr.mono (j := 1 + 1) hk) hb .nil pass0 hg T.g (pa_wide ha) hdb he hpl
  intro pins s σ H Q I q
  exact h pins s σ H Q I (tMk_of T.o T.no q)
theorem ps_raiseZ {k : Nat} {W : WX} (hc : X.calm = true) (T : Xi X.prog X.w X.K X.mg X.base x C) (hr : Room k X.A) (tk : Takes X W) (ha : PA X [e] ta) (hg : Gl X x) (hk : 2 ≤ k := by decide) (hdb : (x == ("__debug__" : Str)) = false := by decide)
    (he : starEach (e :: []) X.env = (false, eval e X.env) :: starEach [] X.env := by rfl) (hpl : (backTo pos (starEach [] X.env)).any (·.1) = false := by rfl) :
    PS X (.Raise (some (.Call (.Name x p) [e] [] pos)) none pos2) (tRz C W ta) := ⟨fun pins s σ H D I h => (ps_raise hc tk (pmk_z T hr ha hg hk hdb he hpl)).run pins s σ H D I h⟩
/-- X(e) as a value: a new exception that no one raised -/
theorem pe_made {t : L2.St → Hp → XK → Prop} (h : PMk X e t) : PE X e (fun σ H Q => t σ H fun cls d H' => ∀ a, H' a = none → Q (.ref a) (upd H' a (exk a cls d))) := by
  refine ⟨fun pins s σ H Q I q => ?_⟩
  refine wpAny_mono (h pins s σ H _ I q) (fun u s1 hh => ?_) fun _ _ x => x
  obtain ⟨a, oe, vs, sI, H', cls, d, rfl, J, k, hne, ha, hz, hd, h1, na, os, ag, r, z⟩ := hh
  have J2 := (J.laidN (t' := s1.toks) k hne na (exk_ok ha hz ⟨_, hd⟩))
  refine ⟨.ref a, _, ?_, rfl, z a na⟩
  exact ⟨J2.ok, os.trans J.os, ag, J2.base, J2.loc, J2.cell, J2.free, J2.freeC, J2.pin, J2.hok, J2.len⟩
/-- e.value of an exception that is known -/
def tXk (K : PySem.W.Frag) (n : Str) (te : TE) : TE := fun σ H Q => te σ H fun y H1 => ∃ (a C dd : Addr) (fs : List (Str × V)) (v : V), y = .ref a ∧ H1 a = some (exk a (.ref C) (some dd)) ∧ ExcC K C ∧ PySem.W.findIn K (.ref C) n = some none ∧ H1 dd = some (.xd fs) ∧ fs.lookup n = some v ∧ Q v H1
theorem pe_xk {te : TE} {n : Str} (he : PE X e te) (hb : attributeBase e n X.env (eval e X.env) = eval e X.env := by rfl) : PE X (.Attribute e n pos) (tXk X.K n te) := by
  refine ⟨fun pins s σ H Q I h => ?_⟩
  refine attr_of hb (thn (he.run pins s σ H _ I h) fun u s1 hh => ?_)
  obtain ⟨y, H1, I1, rx, a, C, dd, fs, v, rfl, ea, T, hno, ed, l, q⟩ := hh
  obtain rfl : u = Value.ref a := rx
  obtain ⟨⟨oe, ha, hz, vs, hd⟩, _, _⟩ := I1.hok a _ ea
  obtain ⟨mA, hns, hr⟩ := (show ObjOk X.prog X.w H1 s1.heap dd (.xd fs) from I1.hok dd _ ed)
  obtain ⟨od, ho, hl⟩ := lookIn_ns hns
  obtain ⟨u, hu, ru⟩ := RelO.some_of (v := v) (o := mA n) (by rw [← l]; exact hr n)
  have J : PySem.W.InstAt s1.heap a oe C (some od) := ⟨ha, hz.1, by unfold PySem.W.notCls; rw [hd] <;> rfl, by rw [hz.2]; exact ho⟩
  exact HandSPX.exc_get I1.kIn J T.hg T.hk T.hs (PySem.W.findObj_own T.hd hno rfl (by rw [hl, hu])) (handed_of ru) ⟨v, H1, I1.tok _, ru, q⟩
/-- isinstance(e, c), e an exception that is known -/
def rIsK (K : PySem.W.Frag) : List V → Hp → VK → Prop := fun xs H Q => ∃ (a D dd : Addr) (fs : List (Str × V)) (c : V) (cv : Value) (b : Bool), xs = [.ref a, c] ∧ H a = some (exk a (.ref D) (some dd)) ∧ H dd = some (.xd fs) ∧ ExcC K D ∧ (∀ u, RelV c u → u = cv) ∧ PySem.W.kitOne K (.ref D) cv = some b ∧ Q (.bl b) H
theorem call_isK : CallR X (.builtin "isinstance") (rIsK X.K) := by
  intro pins s σ H xs us Q I r h
  obtain ⟨a, D, dd, fs, c, cv, b, rfl, ea, ed, C, hcv, e, q⟩ := h
  cases r with
  | cons rx rr =>
    cases rr with
    | cons rt rr =>
      cases rr
      cases rx
      have ec := hcv _ rt
      subst ec
      obtain ⟨⟨oe, ha, hz, vs, hd⟩, _, _⟩ := I.hok a _ ea
      obtain ⟨mA, hns, hr⟩ := (show ObjOk X.prog X.w H s.heap dd (.xd fs) from I.hok dd _ ed)
      obtain ⟨od, ho, hl⟩ := lookIn_ns hns
      have J : PySem.W.InstAt s.heap a oe D (some od) := ⟨ha, hz.1, by unfold PySem.W.notCls; rw [hd] <;> rfl, by rw [hz.2]; exact ho⟩
      have hcl : (PySem.W.clsIn X.K D).isSome = true := by
        have := C.hd
        unfold PySem.W.hasDictIn at this
        cases q2 : PySem.W.clsIn X.K D with
        | none => rw [q2] at this; exact absurd this (by decide)
        | some _ => rfl
      exact PySem.W.kia_one (PySem.W.kitx_exc hcl C.hg C.hk C.hs C.ha C.hn C.ht C.hm) I.kIn J e (fun z => nomatch z) fun tk => ⟨.bl b, H, I.kept (t' := tk) fun _ _ z => z, rfl, q⟩
end

/-! ## defs that may raise -/
section
variable {X : Cx} {CX : CXT} {k : Nat} {f : Addr} {fd : FuncData} {ps ks : List Str} {sp : Sp} {E : L2.St → XK} {x : Str} {p pos : Pos} {e : Expr} {es : List Expr} {kws : List Keyword} {t tk : TA}
theorem ends_callS {pins : List (Addr × Obj)} {σ : L2.St} {H : Hp} {s : Shared} {Q : VK} {r : Result} {s' : Shared} (I : Inv X pins σ H s) (hx : PassesAt CX X σ (E σ)) (hq : CR CX X.stack X.prog X.w H s Q (E σ) r s') :
    match r with | .ok (.ret u) => EP X pins σ Q u s' | .ok _ => False | .error er => X.xe er s' := by
  match r, hq with
  | .error er, hq => exact hx pins H s er s' I hq
  | .ok (.ret u), hq => exact I.after hq
theorem pe_gS (F : FnG X.prog X.w X.K X.mg X.base CX k f fd ps sp) (hG : X.A.guards = some []) (hr : Room k X.A) (hg : Gl X x) (hm : X.mg x = some (.ref f))
    (hk : PySem.W.keepIn X.K (.ref f) = true) (hb : Binds X.K fd ps []) (hx : ∀ σ, PassesAt CX X σ (E σ)) (ha : PA X (e :: es) t)
    (hdb : (x == ("__debug__" : Str)) = false := by decide)
    (he : starEach (e :: es) X.env = (false, eval e X.env) :: starEach es X.env := by rfl)
    (hpl : (backTo pos (starEach es X.env)).any (·.1) = false := by rfl) : PE X (.Call (.Name x p) (e :: es) [] pos) (tCallS sp E t) := by
  constructor
  intro pins s σ H Q I h
  refine wpAny_Call_Name_kw (ld_glob I hg hm ?_ hdb)
  have step := thn (ha.run pos pins s σ H _ I h) (Q' := fun us s1 => X.K.In s1.heap ∧ wpAny (model X.prog X.w) X.A (call (.ref f) us) (EP X pins σ Q) X.xe s1) fun us s1 hh => by
    obtain ⟨vs, H1, I1, r, q⟩ := hh
    have el : us.length = ps.length := (r.length).symm.trans (F.len _ _ _ _ q)
    have b := hb s1 us I1.kIn (by rw [List.append_nil]; exact el)
    rw [List.append_nil] at b
    refine ⟨I1.kIn, wpAny_call (codeAny_mono (F.run X.A X.stack s1 H1 ⟨us, []⟩ us vs Q (E σ) hG hr I1.env0 b r q) fun r s' q => ?_)⟩
    have q2 := ends_callS I1 (hx σ) q
    revert q2
    match r with
    | .error er => exact id
    | .ok (.ret u) => exact id
    | .ok .next => exact False.elim
    | .ok .brk => exact False.elim
    | .ok .cont => exact False.elim
  exact PySem.W.callWith_K (h₀ := X.base) I.ok.mod.kin hk step he hpl
def tKwS (m : Nat) (sp : Sp) (gV : List V → List V) (E : L2.St → XK) (tk : TA) : TE := fun σ H Q => tk σ H fun zs H2 => zs.length = m ∧ sp (gV zs) H2 Q (E σ)
theorem pe_gkwS {g1 : List Value → List Value} {gV1 : List V → List V} (F : FnG X.prog X.w X.K X.mg X.base CX k f fd ps sp) (hG : X.A.guards = some []) (hr : Room k X.A) (hg : Gl X x) (hm : X.mg x = some (.ref f))
    (hk : PySem.W.keepIn X.K (.ref f) = true) (hb : KwB X.K fd ps ks g1 gV1) (hx : ∀ σ, PassesAt CX X σ (E σ)) (hkw : PK X kws tk)
    (hall : (backToKw pos (keywordEach kws X.env)).all (·.1.isSome) = true := by rfl)
    (hks : (backToKw pos (keywordEach kws X.env)).filterMap (·.1) = ks := by rfl)
    (hdb : (x == ("__debug__" : Str)) = false := by decide)
    (hpl : ((backTo pos (starEach [] X.env)).any (·.1) || (backToKw pos (keywordEach kws X.env)).any (·.1.isNone)) = false := by rfl) :
    PE X (.Call (.Name x p) [] kws pos) (tKwS ks.length sp gV1 E tk) := by
  constructor
  intro pins s σ H Q I h
  refine wpAny_Call_Name_kw (ld_glob I hg hm ?_ hdb)
  refine PySem.W.callWith_KW0 (h₀ := X.base) I.ok.mod.kin hk hall (thn (hkw.run pos pins s σ H _ I h) fun ws s2 hh => ?_) hpl
  obtain ⟨zs, H2, I2, rz, l2, q2⟩ := hh
  refine ⟨I2.kIn, ?_⟩
  rw [hks]
  have lw : ws.length = ks.length := rz.length.symm.trans l2
  refine wpAny_call (codeAny_mono (F.run X.A X.stack s2 H2 ⟨[], ks.zip ws⟩ (g1 ws) (gV1 zs) Q (E σ) hG hr I2.env0 (hb.to s2 ws I2.kIn lw) (hb.rel l2 rz) q2) fun r s' q => ?_)
  have q3 := ends_callS I2 (hx σ) q
  revert q3
  match r with
  | .error er => exact id
  | .ok (.ret u) => exact id
  | .ok .next => exact False.elim
  | .ok .brk => exact False.elim
  | .ok .cont => exact False.elim
end
def ClX (P : Program) (w : World) (K : PySem.W.Frag) (mg : Str → Option Value) (base : Heap) (k : Nat) (x : Str) (ps : List Str) (sp : Sp) : Prop :=
  ∃ (f : Addr) (fd : FuncData), FnG P w K mg base (L2.CX P w) k f fd ps sp ∧ mg x = some (.ref f) ∧ PySem.W.keepIn K (.ref f) = true ∧ Binds K fd ps []
def CkX (P : Program) (w : World) (K : PySem.W.Frag) (mg : Str → Option Value) (base : Heap) (k : Nat) (x : Str) (ks : List Str) (gV : List V → List V) (sp : Sp) : Prop :=
  ∃ (f : Addr) (fd : FuncData) (ps : List Str) (g : List Value → List Value), FnG P w K mg base (L2.CX P w) k f fd ps sp ∧ mg x = some (.ref f) ∧ PySem.W.keepIn K (.ref f) = true ∧ KwB K fd ps ks g gV
section
variable {P : Program} {w : World} {K : PySem.W.Frag} {mg : Str → Option Value} {base : Heap}
theorem ClX.mk {k : Nat} {x : Str} {st : Stmt} {ps : List Str} {sp : Sp} {f : Addr} {fd : FuncData} (D : Df K mg x st ps f fd) (F : FnG P w K mg base (L2.CX P w) k f fd ps sp) : ClX P w K mg base k x ps sp :=
  ⟨f, fd, F, D.g, D.F.kp, D.b⟩
theorem CkX.mk {k : Nat} {x : Str} {st : Stmt} {ps ks : List Str} {sp : Sp} {f : Addr} {fd : FuncData} {gV : List V → List V} (D : Df K mg x st ps f fd) (F : FnG P w K mg base (L2.CX P w) k f fd ps sp) (g : List Value → List Value)
    (h : ∀ (kV doc pm : Value) (an : Option Addr) (cdv ct : Value) (ws : List Value), ws.length = ks.length → bindArgs (PySem.W.fnOf x x (defArgs st) (defBody st) (defScope st) .none kV doc pm an cdv ct) ⟨[], ks.zip ws⟩ = pure (ps.zip (g ws)))
    (rel : ∀ {zs : List V} {ws : List Value}, zs.length = ks.length → Vals zs ws → Vals (gV zs) (g ws)) : CkX P w K mg base k x ks gV sp :=
  ⟨f, fd, ps, g, F, D.g, D.F.kp, fun_kw D.F h rel⟩
/-- a body that may let an exception out; nothing is handled -/
theorem df_okX {x : Str} {st : Stmt} {f : Addr} {fd : FuncData} {N ps : List Str} {k : Nat} {sp : Sp} (D : Df K mg x st ps f fd) (S : FnScope N ps (defScope st)) (len : ∀ vs H Q E, sp vs H Q E → vs.length = ps.length)
    (hbody : ∀ (cdv : Value) (A : Around) (outer : List Env) (s : Shared) (H : Hp) (vs : List V) (Q : VK) (E : XK), A.guards = some [] → Room k (A.deeper (envOfC x (defScope st) s.heap.objs.size f cdv)) →
      Takes (cxOf (L2.CX P w) P w K mg base N x (defScope st) f cdv A outer s H E) (fun cls d _ H' => E cls d H') → sp vs H Q E →
      ∃ t, PSs (cxOf (L2.CX P w) P w K mg base N x (defScope st) f cdv A outer s H E) (defBody st) t ∧ t { nx := fun _ H' => Q .non H', rt := Q } (start N vs) H) :
    FnG P w K mg base (L2.CX P w) (k + 1) f fd ps sp :=
  fun_okG D.F S len fun cdv A outer s H vs Q E hG hr hs => hbody cdv A outer s H vs Q E hG hr (takes_of rfl rfl rfl rfl) hs
end
section
variable {X : Cx} {j k : Nat} {ps ks : List Str} {sp : Sp} {x : Str} {p pos : Pos} {e : Expr} {es : List Expr} {kws : List Keyword} {t tk : TA} {W : WX}
theorem pe_clX (C : ClX X.prog X.w X.K X.mg X.base j x ps sp) (hG : X.A.guards = some []) (hr : Room k X.A) (tk : Takes X W) (hg : Gl X x) (ha : PA X (e :: es) t) (hjk : j ≤ k := by decide)
    (hdb : (x == ("__debug__" : Str)) = false := by decide)
    (he : starEach (e :: es) X.env = (false, eval e X.env) :: starEach es X.env := by rfl)
    (hpl : (backTo pos (starEach es X.env)).any (·.1) = false := by rfl) : PE X (.Call (.Name x p) (e :: es) [] pos) (tCallS sp (WE W) t) := by
  obtain ⟨f, fd, F, g, kp, b⟩ := C
  exact pe_gS F hG (hr.mono hjk) hg g kp b (fun σ => passAt tk σ) ha hdb he hpl
theorem pe_ckX {gV : List V → List V} (C : CkX X.prog X.w X.K X.mg X.base j x ks gV sp) (hG : X.A.guards = some []) (hr : Room k X.A) (tk0 : Takes X W) (hg : Gl X x) (hkw : PK X kws tk) (hjk : j ≤ k := by decide)
    (hall : (backToKw pos (keywordEach kws X.env)).all (·.1.isSome) = true := by rfl)
    (hks : (backToKw pos (keywordEach kws X.env)).filterMap (·.1) = ks := by rfl)
    (hdb : (x == ("__debug__" : Str)) = false := by decide)
    (hpl : ((backTo pos (starEach [] X.env)).any (·.1) || (backToKw pos (keywordEach kws X.env)).any (·.1.isNone)) = false := by rfl) :
    PE X (.Call (.Name x p) [] kws pos) (tKwS ks.length sp gV (WE W) tk) := by
  obtain ⟨f, fd, ps, g, F, gm, kp, b⟩ := C
  exact pe_gkwS F hG (hr.mono hjk) hg gm kp b (fun σ => passAt tk0 σ) hkw hall hks hdb hpl
end
/-- a def that gives something, or raises as o says -/
def PX (pre : List V → Hp → Option (Addr × V) → Prop) : Sp := fun vs H Q E => ∃ o, pre vs H o ∧ (o = none → ∀ v H', Ex H H' → Q v H') ∧ ∀ C v, o = some (C, v) → Out C v H E
theorem px_len {pre : List V → Hp → Option (Addr × V) → Prop} {n : Nat} (h : ∀ vs H o, pre vs H o → vs.length = n) : ∀ vs H Q E, PX pre vs H Q E → vs.length = n := fun vs H Q E q => by
  obtain ⟨o, a, _⟩ := q
  exact h _ _ _ a
section
variable {pre : List V → Hp → Option (Addr × V) → Prop} {o : Option (Addr × V)} {σ : L2.St} {H : Hp} {vs : List V} {ta : TA} {tz : TS} {D : Ends} {W : WX}
theorem q_dropX (h : EvA ta σ H vs) (hp : ∀ H1, Ex H H1 → pre vs H1 o) (h0 : o = none → ∀ H1, Ex H H1 → tz D σ H1) (h1 : ∀ C v, o = some (C, v) → ∀ H1, Ex H H1 → Out C v H1 (fun c d H' => W c d σ H')) : tSeq (tDrop (tCallS (PX pre) (WE W) ta)) tz D σ H :=
  h H (Ex.refl H) _ fun H1 e1 => ⟨o, hp H1 e1, fun z v H' e' => h0 z H' (e1.trans e'), fun C v z => h1 C v z H1 e1⟩
theorem s_dropX (h : EvA ta σ H vs) (hp : ∀ H1, Ex H H1 → pre vs H1 o) (h0 : o = none → ∀ H1, Ex H H1 → D.nx σ H1) (h1 : ∀ C v, o = some (C, v) → ∀ H1, Ex H H1 → Out C v H1 (fun c d H' => W c d σ H')) : tDrop (tCallS (PX pre) (WE W) ta) D σ H :=
  h H (Ex.refl H) _ fun H1 e1 => ⟨o, hp H1 e1, fun z v H' e' => h0 z H' (e1.trans e'), fun C v z => h1 C v z H1 e1⟩
theorem s_dropKX {gV : List V → List V} {m : Nat} (h : EvA ta σ H vs) (hl : vs.length = m) (hp : ∀ H1, Ex H H1 → pre (gV vs) H1 o) (h0 : o = none → ∀ H1, Ex H H1 → D.nx σ H1) (h1 : ∀ C v, o = some (C, v) → ∀ H1, Ex H H1 → Out C v H1 (fun c d H' => W c d σ H')) : tDrop (tKwS m (PX pre) gV (WE W) ta) D σ H :=
  h H (Ex.refl H) _ fun H1 e1 => ⟨hl, o, hp H1 e1, fun z v H' e' => h0 z H' (e1.trans e'), fun C v z => h1 C v z H1 e1⟩
theorem s_rz {C : Addr} {x : V} {te : TE} (h : Ev te σ H x) (k : ∀ H1, Ex H H1 → Out C x H1 (fun c d H' => W c d σ H')) : tRz C W (tCons te tNil) D σ H := h H (Ex.refl H) _ fun H1 e1 => ⟨x, rfl, k H1 e1⟩
end
/-! ## models that may be wrong -/
def AtX (K : PySem.W.Frag) (H : Hp) (p : Addr) (ns : List Int) (pl : Str) : Prop := ∃ q, SqT K H p [.ref q, .str pl] ∧ SqT K H q (ns.map V.int)
theorem AtX.ex {K : PySem.W.Frag} {H H' : Hp} {p : Addr} {ns : List Int} {pl : Str} (e : Ex H H') (h : AtX K H p ns pl) : AtX K H' p ns pl := by
  obtain ⟨q, a, b⟩ := h
  exact ⟨q, ex_t e a, ex_t e b⟩
def firstBad (C : Addr) : Int → Nat → List Int → Option (Addr × V)
  | _, _, [] => none
  | l, i, n :: r => if n < l ∨ 128 < n then some (C, .int (i : Nat)) else firstBad C n (i + 1) r
def chkW (C : Addr) (ns : List Int) : Option (Addr × V) := if ns.length = 5 then firstBad C 2 0 ns else some (C, .non)
def plOk (pl : Str) : Bool := inV (.str pl) vPLAIN
def chkM (C : Addr) (ns : List Int) (pl : Str) : Option (Addr × V) := match chkW C ns with
  | none => if plOk pl then none else some (C, .non)
  | some z => some z
def kdOk (x : Str) : Bool := inV (.str x) vKINDS
def chkK (C : Addr) (x : Str) : Option (Addr × V) := if kdOk x then none else some (C, .str x)
def preCW (K : PySem.W.Frag) (C : Addr) : List V → Hp → Option (Addr × V) → Prop := fun vs H o => ∃ p ns, vs = [.ref p] ∧ SqT K H p (ns.map V.int) ∧ o = chkW C ns
def preCM (K : PySem.W.Frag) (C : Addr) : List V → Hp → Option (Addr × V) → Prop := fun vs H o => ∃ p ns pl, vs = [.ref p] ∧ AtX K H p ns pl ∧ o = chkM C ns pl
def preCK (C : Addr) : List V → Hp → Option (Addr × V) → Prop := fun vs H o => ∃ x, vs = [.str x] ∧ o = chkK C x
def andThen (a b : Option (Addr × V)) : Option (Addr × V) := match a with | none => b | some z => some z
def preMX (K : PySem.W.Frag) (C D : Addr) : List V → Hp → Option (Addr × V) → Prop := fun vs H o => ∃ p ns pl x, vs = [.ref p, .str x] ∧ AtX K H p ns pl ∧ o = andThen (chkM C ns pl) (chkK D x)
def preMXI (K : PySem.W.Frag) (C D : Addr) : List V → Hp → Option (Addr × V) → Prop := fun vs H o => ∃ p ns pl x i, vs = [.ref p, .str x, .int i] ∧ AtX K H p ns pl ∧ o = andThen (chkM C ns pl) (chkK D x)
def preMXX (K : PySem.W.Frag) (C D : Addr) : List V → Hp → Option (Addr × V) → Prop := fun vs H o => ∃ p ns pl x y, vs = [.ref p, .str x, .str y] ∧ AtX K H p ns pl ∧ o = andThen (chkM C ns pl) (andThen (chkK D x) (chkK D y))
theorem firstBad_drop {C : Addr} : ∀ {ns : List Int} {l z : Int} {j i : Nat}, ns[i]? = some z → firstBad C l j (ns.drop i) = if z < l ∨ 128 < z then some (C, .int (j : Nat)) else firstBad C z (j + 1) (ns.drop (i + 1)) := by
  intro ns l z j i h
  obtain ⟨hi, e⟩ := List.getElem?_eq_some_iff.mp h
  rw [List.drop_eq_getElem_cons hi, e]
  rfl
theorem kdOk_ex {x : Str} (h : kdOk x = true) : ∃ k : Kd, k.s = x := by
  unfold kdOk inV at h
  rw [List.any_eq_true] at h
  obtain ⟨y, hy, e⟩ := h
  obtain ⟨m, hm⟩ := List.mem_iff_getElem?.mp hy
  obtain ⟨k, _, rfl⟩ := kd_at hm
  refine ⟨k, ?_⟩
  have : decide (k.s = x) = true := by
    first
      | exact e
      | simpa [eqV] using e
  exact of_decide_eq_true this
theorem chkM_ok {C : Addr} {ns : List Int} {pl : Str} (h : chkM C ns pl = none) : ∃ m : Md, m.Ok ∧ ns = m.ns ∧ pl = plS m.u := by
  unfold chkM at h
  cases hw : chkW C ns with
  | some z => rw [hw] at h; exact nomatch h
  | none =>
    rw [hw] at h
    have h : (if plOk pl then none else some (C, V.non)) = none := h
    have hp : plOk pl = true := by
      cases q : plOk pl with
      | true => rfl
      | false => rw [q] at h; exact nomatch h
    unfold chkW at hw
    split at hw
    · rename_i hl
      match ns, hl with
      | [a, b, c, d, e], _ =>
        have key : ∀ (l : Int) (i : Nat) (z : Int) (r : List Int), firstBad C l i (z :: r) = none → l ≤ z ∧ z ≤ 128 ∧ firstBad C z (i + 1) r = none := by
          intro l i z r q
          unfold firstBad at q
          split at q
          · exact nomatch q
          · exact ⟨by omega, by omega, q⟩
        obtain ⟨a1, a2, hw⟩ := key _ _ _ _ hw
        obtain ⟨b1, b2, hw⟩ := key _ _ _ _ hw
        obtain ⟨c1, c2, hw⟩ := key _ _ _ _ hw
        obtain ⟨d1, d2, hw⟩ := key _ _ _ _ hw
        obtain ⟨e1, e2, hw⟩ := key _ _ _ _ hw
        obtain ⟨u, hu⟩ : ∃ u : Bool, pl = plS u := by
          unfold plOk inV vPLAIN at hp
          simp only [List.any_cons, List.any_nil, Bool.or_false, Bool.or_eq_true] at hp
          rcases hp with hp | hp
          · exact ⟨false, ((eq_of_beq (show ("s" == pl) = true from hp))).symm⟩
          · exact ⟨true, ((eq_of_beq (show ("u" == pl) = true from hp))).symm⟩
        refine ⟨⟨a.toNat, b.toNat, c.toNat, d.toNat, e.toNat, u⟩, ⟨?_, ?_, ?_, ?_, ?_, ?_⟩, ?_, hu⟩
        · simp only []; omega
        · simp only []; omega
        · simp only []; omega
        · simp only []; omega
        · simp only []; omega
        · simp only []; omega
        · show [a, b, c, d, e] = [((a.toNat : Nat) : Int), ((b.toNat : Nat) : Int), ((c.toNat : Nat) : Int), ((d.toNat : Nat) : Int), ((e.toNat : Nat) : Int)]
          rw [Int.toNat_of_nonneg (by omega), Int.toNat_of_nonneg (by omega), Int.toNat_of_nonneg (by omega), Int.toNat_of_nonneg (by omega), Int.toNat_of_nonneg (by omega)]
    · exact nomatch hw
theorem AtX.m {K : PySem.W.Frag} {H : Hp} {p : Addr} {ns : List Int} {pl : Str} {C : Addr} (h : AtX K H p ns pl) (o : chkM C ns pl = none) : ∃ m : Md, m.Ok ∧ AtM K H p m := by
  obtain ⟨m, mo, rfl, rfl⟩ := chkM_ok o
  exact ⟨m, mo, h⟩
theorem chkK_ok {C : Addr} {x : Str} (o : chkK C x = none) : ∃ k : Kd, x = k.s := by
  unfold chkK at o
  split at o
  · rename_i h
    obtain ⟨k, e⟩ := kdOk_ex h
    exact ⟨k, e.symm⟩
  · exact nomatch o
theorem if_true_of_ {c : Bool} {A B : Prop} (hc : c = true) (h : A) : if c = true then A else B := by
  rw [if_pos hc]
  exact h
theorem if_false_of_ {c : Bool} {A B : Prop} (hc : c = false) (h : B) : if c = true then A else B := by
  rw [hc, if_neg Bool.false_ne_true]
  exact h
theorem ev_non_ {σ : L2.St} {H : Hp} : Ev (tC .non) σ H .non := ev_c
end Cf

namespace Cf
open PySem PySem.Spec PyProof.Rows L2 Evl
/-! ## which of the nine classes an exception is of -/
/-- the class at C is of these -/
structure IsF (K : PySem.W.Frag) (C c0 c1 c2 c3 c4 c5 c6 c7 c8 : Addr) (b0 b1 b2 b3 b4 b5 b6 b7 b8 : Bool) : Prop where
  e : ExcC K C
  no : PySem.W.findIn K (.ref C) vVal = some none
  k0 : PySem.W.kitOne K (.ref C) (.ref c0) = some b0
  k1 : PySem.W.kitOne K (.ref C) (.ref c1) = some b1
  k2 : PySem.W.kitOne K (.ref C) (.ref c2) = some b2
  k3 : PySem.W.kitOne K (.ref C) (.ref c3) = some b3
  k4 : PySem.W.kitOne K (.ref C) (.ref c4) = some b4
  k5 : PySem.W.kitOne K (.ref C) (.ref c5) = some b5
  k6 : PySem.W.kitOne K (.ref C) (.ref c6) = some b6
  k7 : PySem.W.kitOne K (.ref C) (.ref c7) = some b7
  k8 : PySem.W.kitOne K (.ref C) (.ref c8) = some b8
  kv : PySem.W.kitOne K (.ref C) (.type "ValueError") = some true
structure Er9 (K : PySem.W.Frag) (mg : Str → Option Value) (c0 c1 c2 c3 c4 c5 c6 c7 c8 : Addr) : Prop where
  g0 : mg "InvalidModel" = some (.ref c0)
  g1 : mg "InvalidType" = some (.ref c1)
  g2 : mg "InvalidVariables" = some (.ref c2)
  g3 : mg "InvalidExpression" = some (.ref c3)
  g4 : mg "InvalidValues" = some (.ref c4)
  g5 : mg "InvalidNumber" = some (.ref c5)
  g6 : mg "NotAdmitted" = some (.ref c6)
  g7 : mg "NothingToUndo" = some (.ref c7)
  g8 : mg "Unreadable" = some (.ref c8)
  m : IsF K c0 c0 c1 c2 c3 c4 c5 c6 c7 c8 true false false false false false false false false
  k : IsF K c1 c0 c1 c2 c3 c4 c5 c6 c7 c8 false true false false false false false false false
/-- an exception of the class C with v stands at a -/
def ExAt (H : Hp) (a C : Addr) (v : V) : Prop := ∃ dd, H a = some (exk a (.ref C) (some dd)) ∧ H dd = some (.xd [(vVal, v)])
theorem ExAt.ex {H H' : Hp} {a C : Addr} {v : V} (h : ExAt H a C v) (e : Ex H H') : ExAt H' a C v := by
  obtain ⟨dd, p, q⟩ := h
  exact ⟨dd, e _ _ p, e _ _ q⟩
theorem ExAt.bu {H H' : Hp} {a C l : Addr} {v : V} {xs : List V} (h : ExAt H a C v) (hl : H l = some (.lst xs)) (e : Bu l H H') : ExAt H' a C v := by
  obtain ⟨dd, p, q⟩ := h
  refine ⟨dd, e _ _ (ne_of p hl ?_) p, e _ _ (ne_of q hl ?_) q⟩
  · intro z
    have z' : HO.ext _ = HO.lst _ := z
    cases z'
  · intro z
    cases z
section
variable {K : PySem.W.Frag} {σ : L2.St} {H : Hp} {ta : TE} {a C c : Addr} {v : V} {b : Bool}
theorem ev_isK (ha : Ev ta σ H (.ref a)) (h : ExAt H a C v) (e : ExcC K C) (k : PySem.W.kitOne K (.ref C) (.ref c) = some b) : Ev (tCB (rIsK K) (tCons ta (tCons (tC (.ref c)) tNil))) σ H (.bl b) := ev_cb (ea_cons ha (ea_cons ev_c ea_nil)) fun H1 e1 Q1 q1 => by
  obtain ⟨dd, p, q⟩ := h.ex e1
  exact ⟨a, C, dd, _, .ref c, .ref c, b, rfl, p, q, e, fun u r => r, k, q1 H1 (Ex.refl H1)⟩
theorem ev_isKT {n : String} (ha : Ev ta σ H (.ref a)) (h : ExAt H a C v) (e : ExcC K C) (k : PySem.W.kitOne K (.ref C) (.type n) = some b) : Ev (tCB (rIsK K) (tCons ta (tCons (tC (.ty n)) tNil))) σ H (.bl b) := ev_cb (ea_cons ha (ea_cons ev_c ea_nil)) fun H1 e1 Q1 q1 => by
  obtain ⟨dd, p, q⟩ := h.ex e1
  exact ⟨a, C, dd, _, .ty n, .type n, b, rfl, p, q, e, fun u r => r, k, q1 H1 (Ex.refl H1)⟩
theorem ev_xk (ha : Ev ta σ H (.ref a)) (h : ExAt H a C v) (e : ExcC K C) (no : PySem.W.findIn K (.ref C) vVal = some none) : Ev (tXk K vVal ta) σ H v := fun H1 e1 Q q => ha H1 e1 _ fun H2 e2 => by
  obtain ⟨dd, p, z⟩ := h.ex (e1.trans e2)
  exact ⟨a, C, dd, _, v, rfl, p, e, no, z, by simp [List.lookup], q H2 e2⟩
end
/-- the list at l: pairs (name, bool), each a list -/
def Kin (H : Hp) (l : Addr) (done : List (Str × Bool)) : Prop := ∃ ps : List Addr, H l = some (.lst (ps.map V.ref)) ∧ ps.length = done.length ∧ ∀ (j : Nat) (nm : Str) (b : Bool), done[j]? = some (nm, b) → ∃ p, ps[j]? = some p ∧ p ≠ l ∧ H p = some (.lst [.str nm, .bl b])
theorem Kin.ex {H H' : Hp} {l : Addr} {done : List (Str × Bool)} (h : Kin H l done) (e : Ex H H') : Kin H' l done := by
  obtain ⟨ps, a, b, c⟩ := h
  refine ⟨ps, e _ _ a, b, fun j nm bb q => ?_⟩
  obtain ⟨p, p1, p2, p3⟩ := c j nm bb q
  exact ⟨p, p1, p2, e _ _ p3⟩
theorem q_kin {K : PySem.W.Frag} {σ : L2.St} {H : Hp} {l : Addr} {done : List (Str × Bool)} {nm : Str} {b : Bool} {i : Nat} {te : TE} {tz : TS} {D : Ends} (h : Kin H l done) (hi : σ[i]? = some (some (.ref l))) (hd : done.length < 100000) (he : EvL te σ H [.str nm, .bl b])
    (k : ∀ H', Bu l H H' → Kin H' l (done ++ [(nm, b)]) → tz D σ H') : tSeq (tDrop (tBM K "list" rAppend (tVar i) (tCons te tNil))) tz D σ H := by
  obtain ⟨ps, h1, h2, h3⟩ := h
  refine q_appL h1 (ev_var hi) he (by rw [List.length_map]; omega) fun p H1 np e1 hp => ?_
  have hpl : p ≠ l := fun z => by rw [z, h1] at np; cases np
  have bu : Bu l H (upd H1 l (.lst (ps.map V.ref ++ [.ref p]))) := fun c o nc q => by rw [upd_ne nc]; exact e1 _ _ q
  refine k _ bu ⟨ps ++ [p], by rw [upd_same, List.map_append]; rfl, by rw [List.length_append, List.length_append, h2]; rfl, fun j nm2 b2 q => ?_⟩
  by_cases hj : j < done.length
  · rw [List.getElem?_append_left hj] at q
    obtain ⟨p2, q1, q2, q3⟩ := h3 j nm2 b2 q
    exact ⟨p2, by rw [List.getElem?_append_left (by omega)]; exact q1, q2, bu _ _ q2 q3⟩
  · rw [List.getElem?_append_right (by omega)] at q
    have hj2 : j - done.length = 0 := by
      have := (List.getElem?_eq_some_iff.mp q).1
      simp at this
      omega
    rw [hj2] at q
    have q : (nm, b) = (nm2, b2) := Option.some.inj q
    cases q
    exact ⟨p, by rw [List.getElem?_append_right (by omega), h2, hj2]; rfl, hpl, by rw [upd_ne hpl]; exact hp⟩
/-- _law_kind_of -/
def spKO (K : PySem.W.Frag) (cM cK : Addr) : Sp := fun vs H Q _ => ∃ a C v nm, vs = [.ref a] ∧ ((C = cM ∧ nm = ("model" : Str)) ∨ (C = cK ∧ nm = ("kind" : Str))) ∧ ExAt H a C v ∧ ∀ p H', H p = none → Ex H H' → H' p = some (.lst [.str nm, v]) → Q (.ref p) H'
end Cf
namespace Cf
open PySem PySem.Spec PyProof.Rows L2 Evl
/-! ## what is told -/
def tm (ns : List Int) (pl : Str) : Option V := (chkM 0 ns pl).map (·.2)
def tkd (x : Str) : Option V := if kdOk x then none else some (.str x)
theorem firstBad_C (C : Addr) : ∀ (ns : List Int) (l : Int) (i : Nat), firstBad C l i ns = (firstBad 0 l i ns).map fun z => (C, z.2)
  | [], _, _ => rfl
  | n :: r, l, i => by
    unfold firstBad
    split
    · rfl
    · exact firstBad_C C r n (i + 1)
theorem chkW_C (C : Addr) (ns : List Int) : chkW C ns = (chkW 0 ns).map fun z => (C, z.2) := by
  unfold chkW
  by_cases h : ns.length = 5
  · rw [if_pos h, if_pos h, firstBad_C]
  · rw [if_neg h, if_neg h]
    rfl
theorem chkM_tm (C : Addr) (ns : List Int) (pl : Str) : chkM C ns pl = (tm ns pl).map fun v => (C, v) := by
  unfold tm chkM
  rw [chkW_C]
  cases chkW 0 ns with
  | none => by_cases p : plOk pl <;> simp [p]
  | some z => rfl
theorem chkK_tk (C : Addr) (x : Str) : chkK C x = (tkd x).map fun v => (C, v) := by
  unfold chkK tkd
  split <;> rfl
/-- what the law is told of a call: none, or the name and the value of the error -/
def told1 (ns : List Int) (pl x : Str) : Option (Bool × V) := match tm ns pl with
  | some v => some (true, v)
  | none => (tkd x).map fun v => (false, v)
def told2 (ns : List Int) (pl x y : Str) : Option (Bool × V) := match told1 ns pl x with
  | some z => some z
  | none => (tkd y).map fun v => (false, v)
def nmOf (b : Bool) : Str := if b then "model" else "kind"
def cOf (cM cK : Addr) (b : Bool) : Addr := if b then cM else cK
theorem told1_eq (cM cK : Addr) (ns : List Int) (pl x : Str) : andThen (chkM cM ns pl) (chkK cK x) = (told1 ns pl x).map fun z => (cOf cM cK z.1, z.2) := by
  rw [chkM_tm, chkK_tk]
  unfold told1
  cases tm ns pl with
  | some v => rfl
  | none => cases tkd x <;> rfl
theorem told2_eq (cM cK : Addr) (ns : List Int) (pl x y : Str) : andThen (chkM cM ns pl) (andThen (chkK cK x) (chkK cK y)) = (told2 ns pl x y).map fun z => (cOf cM cK z.1, z.2) := by
  rw [chkM_tm, chkK_tk, chkK_tk]
  unfold told2 told1
  cases tm ns pl with
  | some v => rfl
  | none => cases tkd x <;> cases tkd y <;> rfl
def toldP (pick : Int) (ns : List Int) (pl x y : Str) : Option (Bool × V) := if pick = 5 then told2 ns pl x y else told1 ns pl x
def spTold (K : PySem.W.Frag) : Sp := fun vs H Q _ => ∃ pick p ns pl x y, vs = [.int pick, .ref p, .str x, .str y] ∧ 0 ≤ pick ∧ pick ≤ 5 ∧ AtX K H p ns pl ∧
  (toldP pick ns pl x y = none → ∀ H', Ex H H' → Q .non H') ∧ ∀ b v, toldP pick ns pl x y = some (b, v) → ∀ q H', H q = none → Ex H H' → H' q = some (.lst [.str (nmOf b), v]) → Q (.ref q) H'
end Cf

namespace Cf
open PySem PySem.Spec PyProof.Rows L2 Evl
section
variable {K : PySem.W.Frag} {σ : L2.St} {H : Hp} {ta tb te : TE} {t : TT} {tr : TA}
/-- a comprehension over enumerate(list) -/
theorem el_lcEn {a : Addr} {xs : List V} {j1 j2 : Nat} {vs : List Nat} (f : Nat → Bool) (v : Nat → V) (h : EvA tr σ H [.ref a]) (hx : SqL K H a xs) (hz : xs.length ≤ 40000) (hw : ∀ x y, wipe (((wipe σ vs).set j1 (some x)).set j2 (some y)) vs = wipe σ vs)
    (ht : ∀ (i : Nat) (x : V) H1, Ex H H1 → xs[i]? = some x → EvT t (((wipe σ vs).set j1 (some (.int (i : Nat)))).set j2 (some x)) H1 (f i)) (he : ∀ (i : Nat) (x : V) H1, Ex H H1 → xs[i]? = some x → f i = true → Ev te (((wipe σ vs).set j1 (some (.int (i : Nat)))).set j2 (some x)) H1 (v i)) :
    EvL (tLc (iEnum K tr) (gTup K 2 (gCons (gName j1) (gCons (gName j2) gNil))) t te vs) σ H (given xs.length f v) := fun H0 e Q q => h H0 e _ fun H1 e1 => ⟨a, xs, rfl, ex_l (e.trans e1) hx, fun Dl hD =>
  lc_it walk_enum (Cw H1 f v Dl) ⟨hD, Ex.new hD, upd_same⟩ (fun i H' _ p => ex_l ((e.trans e1).trans p.2.1) hx) (fun i x H' H'' hi p y => by
    obtain ⟨T, a0, b0, rfl, hT, rfl, ea, eb⟩ := y
    cases (Option.some.inj ea)
    obtain ⟨p1, p2, p3⟩ := p
    exact ⟨T, _, rfl, st_of upd_same, rfl, _, _, rfl, _, _, rfl, rfl, hw _ _, cw_turn ⟨p1, p2.trans (Ex.new hT), by rw [upd_ne (ne_of_none p3 hT)]; exact p3⟩ (by omega) (ht i b0 H1 (e.trans e1) eb) (fun hf => he i b0 H1 (e.trans e1) eb hf)⟩)
    (fun H' p => q Dl H' (fresh_back e1 p.1) (e1.trans p.2.1) p.2.2)⟩
theorem el_cat {xs ys : List V} (ha : EvL ta σ H xs) (hb : EvL tb σ H ys) (hl : xs.length + ys.length ≤ 100000) : EvL (tOp rCat ta tb) σ H (xs ++ ys) := fun H1 e Q q =>
  ha H1 e _ fun p H2 np e2 h2 => hb H2 (e.trans e2) _ fun p2 H3 np2 e3 h3 => ⟨p, p2, xs, ys, rfl, rfl, e3 _ _ h2, h3, sz_of hl, fun l nl => q l _ (fresh_back (e2.trans e3) nl) ((e2.trans e3).trans (Ex.new nl)) upd_same⟩
theorem el_catV {a : Addr} {xs ys : List V} (ha : Ev ta σ H (.ref a)) (h : H a = some (.lst xs)) (hb : EvL tb σ H ys) (hl : xs.length + ys.length ≤ 100000) : EvL (tOp rCat ta tb) σ H (xs ++ ys) := fun H1 e Q q =>
  ha H1 e _ fun H2 e2 => hb H2 (e.trans e2) _ fun p2 H3 np2 e3 h3 => ⟨a, p2, xs, ys, rfl, rfl, e3 _ _ (e2 _ _ (e _ _ h)), h3, sz_of hl, fun l nl => q l _ (fresh_back (e2.trans e3) nl) ((e2.trans e3).trans (Ex.new nl)) upd_same⟩
theorem el_rep {x : V} {k : Nat} (ha : EvL ta σ H [x]) (hb : Ev tb σ H (.int (k : Nat))) (hk : k ≤ 1000) : EvL (tOp rRep ta tb) σ H (List.replicate k x) := fun H1 e Q q =>
  ha H1 e _ fun p H2 np e2 h2 => hb H2 (e.trans e2) _ fun H3 e3 => ⟨p, (k : Int), [x], rfl, rfl, e3 _ _ h2, by omega, by omega, by rw [Int.toNat_natCast]; simp only [List.length_cons, List.length_nil]; exact sz_of (by omega), fun l nl => by
    have er : (List.replicate ((k : Int).toNat) [x]).flatten = List.replicate k x := by
      rw [Int.toNat_natCast]
      clear hk hb q
      induction k with
      | zero => rfl
      | succ k ih => rw [List.replicate_succ, List.flatten_cons, ih, List.replicate_succ]; rfl
    rw [er]
    exact q l _ (fresh_back (e2.trans e3) nl) ((e2.trans e3).trans (Ex.new nl)) upd_same⟩
/-- one of several written numbers, drawn -/
theorem pickA {r : Addr} {zs : List Int} {l n j : Nat} {E : XK} {Q : VK} (h : EvA tr σ H (zs.map V.int)) (hl : zs.length = l) (l0 : 0 < l) (l1 : l ≤ 100) (g : Rng H r n) (hn : n < 2 ^ 60) (hj : σ[j]? = some (some (.ref r))) (k : ∀ H' z, Bu r H H' → Rng H' r (n + 1) → z ∈ zs → Q (.int z) H') :
    tOp (rIxL K) (tLst tr) (tCall spDraw [] E (tCons (tVar j) (tCons (tC (.int (l : Nat))) tNil))) σ H Q := by
  refine h H (Ex.refl H) _ fun H0 e0 => ⟨by rw [List.length_map]; exact sz_of (by omega), fun t nt => ?_⟩
  have e1 : Ex H (upd H0 t (.lst (zs.map V.int))) := e0.trans (Ex.new nt)
  have htr : t ≠ r := by
    obtain ⟨d, s2, c, q, _⟩ := g.ex e0
    exact fun z => by
      rw [z, q] at nt
      cases nt
  refine draw_at (l := (l : Nat)) (n := n) (ea_cons (ev_var hj) (ea_cons ev_c ea_nil)) (by omega) (log_small (by omega)) hn (g.ex e1) fun H2 v b2 g2 v0 v1 => ?_
  have h2 : H2 t = some (.lst (zs.map V.int)) := b2 _ _ htr upd_same
  obtain ⟨i, rfl⟩ : ∃ i : Nat, v = (i : Int) := ⟨v.toNat, by omega⟩
  have hi : i < zs.length := by omega
  exact ⟨t, _, (i : Int), .int zs[i], rfl, rfl, sq_of h2, atI_nat (by rw [List.getElem?_map, List.getElem?_eq_getElem hi]; rfl), k H2 zs[i] ((Bu.of e1).trans b2) g2 (List.getElem_mem hi)⟩
/-- one of several written texts, drawn -/
theorem pickS {r : Addr} {zs : List Str} {l n j : Nat} {E : XK} {Q : VK} (h : EvA tr σ H (zs.map V.str)) (hl : zs.length = l) (l0 : 0 < l) (l1 : l ≤ 100) (g : Rng H r n) (hn : n < 2 ^ 60) (hj : σ[j]? = some (some (.ref r))) (k : ∀ H' z, Bu r H H' → Rng H' r (n + 1) → z ∈ zs → Q (.str z) H') :
    tOp (rIxL K) (tLst tr) (tCall spDraw [] E (tCons (tVar j) (tCons (tC (.int (l : Nat))) tNil))) σ H Q := by
  refine h H (Ex.refl H) _ fun H0 e0 => ⟨by rw [List.length_map]; exact sz_of (by omega), fun t nt => ?_⟩
  have e1 : Ex H (upd H0 t (.lst (zs.map V.str))) := e0.trans (Ex.new nt)
  have htr : t ≠ r := by
    obtain ⟨d, s2, c, q, _⟩ := g.ex e0
    exact fun z => by
      rw [z, q] at nt
      cases nt
  refine draw_at (l := (l : Nat)) (n := n) (ea_cons (ev_var hj) (ea_cons ev_c ea_nil)) (by omega) (log_small (by omega)) hn (g.ex e1) fun H2 v b2 g2 v0 v1 => ?_
  have h2 : H2 t = some (.lst (zs.map V.str)) := b2 _ _ htr upd_same
  obtain ⟨i, rfl⟩ : ∃ i : Nat, v = (i : Int) := ⟨v.toNat, by omega⟩
  have hi : i < zs.length := by omega
  exact ⟨t, _, (i : Int), .str zs[i], rfl, rfl, sq_of h2, atI_nat (by rw [List.getElem?_map, List.getElem?_eq_getElem hi]; rfl), k H2 zs[i] ((Bu.of e1).trans b2) g2 (List.getElem_mem hi)⟩
end
theorem cut_ints (ns : List Int) (lo hi : Option Int) : ∃ zs : List Int, cutV (ns.map V.int) lo hi = zs.map V.int ∧ (∀ z ∈ zs, z ∈ ns) ∧ zs.length ≤ ns.length := by
  refine ⟨(ns.drop (HT.sIx (ns.map V.int).length 0 lo)).take (HT.sIx (ns.map V.int).length (ns.map V.int).length hi - HT.sIx (ns.map V.int).length 0 lo), ?_, fun z hz => List.mem_of_mem_drop (List.mem_of_mem_take hz), ?_⟩
  · unfold cutV
    rw [List.map_take, List.map_drop]
  · rw [List.length_take, List.length_drop]
    omega
/-! ### the first wrong width, found the law's way -/
def small (z : Int) : Prop := z.natAbs < 2 ^ 110
/-- the law's test of the width at i -/
def badAt (ns : List Int) (i : Nat) : Bool := decide (ns.getD i 0 < 2) || (decide (ns.getD i 0 > 128) || decide (ns.getD i 0 < (2 :: ns).getD i 0))
def wOf : Option V → List V
  | none => []
  | some v => [v]
def spBad (K : PySem.W.Frag) : Sp := fun vs H Q _ => ∃ r p m n, vs = [.ref r, .ref p] ∧ AtM K H p m ∧ m.Ok ∧ n < 2 ^ 50 ∧ Rng H r n ∧
  ∀ q a b H' ns pl, Bu r H H' → Rng H' r (n + 8) → H q = none → q ≠ r → H' q = some (.lst [.ref a, .ref b]) → AtX K H' a ns pl → H' b = some (.lst (wOf (tm ns pl))) → b ≠ r → (∀ z ∈ ns, small z) → ns.length ≤ 12 → Sm (.str pl) → Q (.ref q) H'
end Cf
namespace Cf
open PySem PySem.Spec PyProof.Rows L2 Evl
theorem badAt_zero {n : Int} {r : List Int} : badAt (n :: r) 0 = (decide (n < 2) || decide (n > 128)) := by
  unfold badAt
  simp only [List.getD_cons_zero]
  by_cases h : n < 2 <;> by_cases h2 : n > 128 <;> simp [h, h2]
/-- the first in the law's list is the one that the document's order finds -/
theorem firstBad_given (C : Addr) : ∀ (ns : List Int) (l : Int) (i : Nat) (f : Nat → Bool), 2 ≤ l →
    (∀ j, j < ns.length → f (i + j) = (decide (ns.getD j 0 < 2) || (decide (ns.getD j 0 > 128) || decide (ns.getD j 0 < (l :: ns).getD j 0)))) →
    firstBad C l i ns = (((List.range' i ns.length).filter f).head?).map fun j => (C, V.int (j : Nat))
  | [], _, _, _, _, _ => rfl
  | n :: r, l, i, f, hl, hf => by
    have h0 := hf 0 (by simp)
    simp only [Nat.add_zero, List.getD_cons_zero] at h0
    rw [List.length_cons, List.range'_succ, List.filter_cons]
    unfold firstBad
    by_cases c : n < l ∨ 128 < n
    · have : f i = true := by
        rw [h0]
        rcases c with c | c
        · simp [c]
        · have : n > 128 := c
          simp [this]
      rw [if_pos c, if_pos this]
      rfl
    · have hno : f i = false := by
        rw [h0]
        have a1 : ¬ n < l := fun z => c (.inl z)
        have a2 : ¬ n > 128 := fun z => c (.inr z)
        have a3 : ¬ n < 2 := by omega
        simp [a1, a2, a3]
      rw [if_neg c, if_neg (by rw [hno]; decide)]
      refine firstBad_given C r n (i + 1) f (by omega) fun j hj => ?_
      have := hf (j + 1) (by simp; omega)
      have e : i + (j + 1) = i + 1 + j := by omega
      rw [e] at this
      rw [this]
      simp only [List.getD_cons_succ]
/-- what the law makes of its list of wrong places -/
theorem tm_of (ns : List Int) (pl : Str) (h5 : ns.length = 5) : tm ns pl = match ((List.range ns.length).filter (badAt ns)).head? with
    | some j => some (.int (j : Nat))
    | none => if plOk pl then none else some .non := by
  unfold tm chkM chkW
  rw [if_pos h5, firstBad_given 0 ns 2 0 (badAt ns) (by decide) (fun j _ => by rw [Nat.zero_add]; rfl), List.range_eq_range']
  cases ((List.range' 0 ns.length).filter (badAt ns)).head? with
  | some j => rfl
  | none =>
    show Option.map _ (if plOk pl then none else some (0, V.non)) = if plOk pl then none else some V.non
    by_cases p : plOk pl <;> simp [p]
theorem tm_len (ns : List Int) (pl : Str) (h5 : ns.length ≠ 5) : tm ns pl = some .non := by
  unfold tm chkM chkW
  rw [if_neg h5]
  rfl
end Cf
namespace Cf
open PySem PySem.Spec PyProof.Rows L2 Evl
theorem par3_raw {ta : TA} {tz : TS} {D : Ends} {i j l : Nat} {σ : L2.St} {H : Hp} (h : ta σ H fun vs H1 => ∃ u v w, vs = [u, v, w] ∧ tz D (((σ.set i (some u)).set j (some v)).set l (some w)) H1) : tSeq (tPar3 i j l ta) tz D σ H := h
theorem el_listT {K : PySem.W.Frag} {σ : L2.St} {H : Hp} {ta : TE} {p : Addr} {xs : List V} (ha : Ev ta σ H (.ref p)) (h : SqT K H p xs) : EvL (tCB (rListS K) (tCons ta tNil)) σ H xs := fun H1 e Q q =>
  ha H1 e _ fun H2 e2 => ⟨p, xs, rfl, .inr (ex_t (e.trans e2) h), fun l nl => q l _ (fresh_back e2 nl) (e2.trans (Ex.new nl)) upd_same⟩
structure Sg (H0 H : Hp) (r : Addr) (n : Nat) (lw : Addr) (ns : List Int) : Prop where
  bu : Bu r H0 H
  g : Rng H r n
  n0 : H0 lw = none
  nr : lw ≠ r
  hl : H lw = some (.lst (ns.map V.int))
  sm : ∀ z ∈ ns, small z
theorem Sg.b {H0 H H' : Hp} {r lw : Addr} {n n' : Nat} {ns : List Int} (s : Sg H0 H r n lw ns) (e : Bu r H H') (g : Rng H' r n') : Sg H0 H' r n' lw ns := ⟨s.bu.trans e, g, s.n0, s.nr, e _ _ s.nr s.hl, s.sm⟩
theorem Sg.ex {H0 H H' : Hp} {r lw : Addr} {n : Nat} {ns : List Int} (s : Sg H0 H r n lw ns) (e : Ex H H') : Sg H0 H' r n lw ns := s.b (Bu.of e) (s.g.ex e)
theorem Sg.le {H0 H : Hp} {r lw : Addr} {n n' : Nat} {ns : List Int} (s : Sg H0 H r n lw ns) (l : n ≤ n') : Sg H0 H r n' lw ns := ⟨s.bu, s.g.le l, s.n0, s.nr, s.hl, s.sm⟩
theorem Sg.set {H0 H : Hp} {r lw : Addr} {n j : Nat} {ns : List Int} {z : Int} (s : Sg H0 H r n lw ns) (hz : small z) : Sg H0 (upd H lw (.lst ((ns.map V.int).set j (.int z)))) r n lw (ns.set j z) where
  bu := fun b o nb q => by
    rw [upd_ne (fun e => by rw [e, s.n0] at q; cases q)]
    exact s.bu _ _ nb q
  g := by
    obtain ⟨d, s2, c, q, q2⟩ := s.g
    exact ⟨d, s2, c, by rw [upd_ne (Ne.symm s.nr)]; exact q, q2⟩
  n0 := s.n0
  nr := s.nr
  hl := by rw [upd_same, List.map_set]
  sm := fun y hy => by
    rcases List.mem_or_eq_of_mem_set hy with h | h
    · exact s.sm y h
    · rw [h]; exact hz
theorem fresh_bu {H0 H : Hp} {r l : Addr} {n : Nat} (b : Bu r H0 H) (g : Rng H r n) (h : H l = none) : H0 l = none ∧ l ≠ r := by
  have nr : l ≠ r := fun z => by
    obtain ⟨d, s2, c, q, _⟩ := g
    rw [z, q] at h
    cases h
  refine ⟨?_, nr⟩
  cases q : H0 l with
  | none => rfl
  | some o =>
    have := b _ _ nr q
    rw [h] at this
    cases this
theorem Sg.re {H0 H H' : Hp} {r lw l : Addr} {n n' : Nat} {ns zs : List Int} (s : Sg H0 H r n lw ns) (e : Bu r H H') (g : Rng H' r n') (nl : H l = none) (hl : H' l = some (.lst (zs.map V.int))) (sm : ∀ z ∈ zs, small z) : Sg H0 H' r n' l zs := by
  obtain ⟨a, b⟩ := fresh_bu s.bu s.g nl
  exact ⟨s.bu.trans e, g, a, b, hl, sm⟩
theorem small_of {z : Int} {zs : List Int} (h : z ∈ zs) (hs : (zs.all fun z => decide (z.natAbs < 2 ^ 110)) = true) : small z := (of_decide_eq_true (List.all_eq_true.mp hs z h) : z.natAbs < 2 ^ 110)
end Cf
namespace Cf
open PySem PySem.Spec PyProof.Rows L2 Evl
theorem el_if {σ : L2.St} {H : Hp} {t : TT} {ta tb : TE} {b : Bool} {xs : List V} (h : EvT t σ H b) (h1 : b = true → EvL ta σ H xs) (h2 : b = false → EvL tb σ H xs) : EvL (tIf t ta tb) σ H xs := fun H1 e Q q => h H1 e _ fun H2 e2 => by
  cases b with
  | true => exact iteT (h1 rfl H2 (e.trans e2) Q fun p H3 n e3 h3 => q p H3 (fresh_back e2 n) (e2.trans e3) h3)
  | false => exact iteF (h2 rfl H2 (e.trans e2) Q fun p H3 n e3 h3 => q p H3 (fresh_back e2 n) (e2.trans e3) h3)
def natD (js : List Nat) : List PyData := js.map fun j => .int (j : Nat)
theorem natD_lay : ∀ js : List Nat, PyData.canLayAll0 (natD js) = true
  | [] => by simp [natD, PyData.canLayAll0]
  | j :: js => by
    have ih := natD_lay js
    unfold natD at ih ⊢
    simp [PyData.canLayAll0, PyData.canLay0, ih]
theorem natD_depth : ∀ js : List Nat, PyData.depthAll (natD js) ≤ 2
  | [] => by simp [natD, PyData.depthAll]
  | j :: js => by
    have ih := natD_depth js
    unfold natD at ih ⊢
    simp only [List.map_cons, PyData.depthAll, PyData.depth]
    omega
theorem natD_shaped (js : List Nat) : SeqAt.shaped (.list (natD js)) = true := by
  have h1 := natD_depth js
  show (PyData.canLay0 (.list (natD js)) && decide (PyData.depth (.list (natD js)) ≤ 64)) = true
  rw [Bool.and_eq_true]
  refine ⟨by simp only [PyData.canLay0]; exact natD_lay js, decide_eq_true ?_⟩
  simp only [PyData.depth]
  omega
theorem natD_dp {K : PySem.W.Frag} {H : Hp} : ∀ js : List Nat, DpAll K H (js.map fun j => V.int (j : Nat)) (natD js)
  | [] => .nil
  | j :: js => .cons (.int _) (natD_dp js)
/-- xs != [] -/
theorem ev_neNil {K : PySem.W.Frag} {σ : L2.St} {H : Hp} {ta : TE} {a : Addr} {js : List Nat} (ha : Ev ta σ H (.ref a)) (h : H a = some (.lst (js.map fun j => V.int (j : Nat)))) : Ev (tOp (rNeD K) ta (tLst tNil)) σ H (.bl (!js.isEmpty)) :=
  ev_opL (xs := []) ha (el_lst ea_nil (by decide)) fun q H1 hq e => fun H2 e2 Q k => ⟨.list (natD js), .list (natD []), .lst (sq_of (e2 _ _ (e _ _ h))) (natD_dp js), .lst (sq_of (e2 _ _ hq)) .nil, natD_shaped js, natD_shaped [], by
    have : PyData.eqv (.list (natD js)) (.list (natD [])) = js.isEmpty := by
      cases js with
      | nil => rfl
      | cons j js => simp [natD, PyData.eqv, PyData.eqvAll]
    rw [this]
    exact k H2 (Ex.refl H2)⟩
theorem given_eq (n : Nat) (f : Nat → Bool) : given n f (fun i => V.int (i : Nat)) = ((List.range n).filter f).map fun j => V.int (j : Nat) := rfl
end Cf
namespace Cf
open PySem PySem.Spec PyProof.Rows L2 Evl
def vODD : List V := [.str "", .str "Int", .str "intt", .str "in", .str "u", .str "unsigned", .str "longs", .str "int ", .str "float"]
def labs : List Str := ["char", "schar", "uchar", "short", "ushort", "int", "uint", "long", "ulong", "wide", "uwide", "", "Int", "intt", "in", "u", "unsigned", "longs", "int ", "float"]
def spLabel : Sp := fun vs H Q _ => ∃ r n, vs = [.ref r] ∧ n < 2 ^ 50 ∧ Rng H r n ∧ ∀ H' x, Bu r H H' → Rng H' r (n + 1) → x ∈ labs → Q (.str x) H'
end Cf
namespace Cf
open PySem PySem.Spec PyProof.Rows L2 Evl
theorem AtX.bu {K : PySem.W.Frag} {r p : Addr} {n : Nat} {H H1 : Hp} {ns : List Int} {pl : Str} (e : Bu r H H1) (g : Rng H r n) (h : AtX K H p ns pl) : AtX K H1 p ns pl := by
  obtain ⟨q, a, b⟩ := h
  exact ⟨q, e.t g a, e.t g b⟩
theorem AtX.dp {K : PySem.W.Frag} {H : Hp} {p : Addr} {ns : List Int} {pl : Str} (h : AtX K H p ns pl) : Dp K H (.ref p) (.tuple [.tuple (ns.map PyData.int), .str pl]) := by
  obtain ⟨q, a, b⟩ := h
  exact .tup a (.cons (.tup b (dp_ints _)) (.cons (.str _) .nil))
theorem sm_ints : ∀ {ns : List Int}, (∀ z ∈ ns, small z) → SmAll (ns.map PyData.int)
  | [], _ => trivial
  | n :: r, h => ⟨by
    have := h n List.mem_cons_self
    unfold small at this
    show n.natAbs < 2 ^ 140
    omega, sm_ints fun z hz => h z (List.mem_cons_of_mem _ hz)⟩
theorem sz_ints : ∀ ns : List Int, szAll (ns.map PyData.int) = ns.length
  | [] => rfl
  | n :: r => by
    show 1 + szAll (r.map PyData.int) = r.length + 1
    rw [sz_ints r]
    omega
theorem depth_ints : ∀ ns : List Int, PyData.depthAll (ns.map PyData.int) ≤ 2
  | [] => by simp [PyData.depthAll]
  | n :: r => by
    have := depth_ints r
    simp only [List.map_cons, PyData.depthAll, PyData.depth]
    omega
theorem labs_sm : ∀ x ∈ labs, Sm (.str x) := by
  have h : (labs.all fun x => decide (x.cps.size ≤ 30) && x.cps.toList.all fun c => decide (c < 16 ^ 8)) = true := by decide +kernel
  intro x hx
  have := List.all_eq_true.mp h x hx
  rw [Bool.and_eq_true] at this
  exact ⟨of_decide_eq_true this.1, this.2⟩
/-- what is told, as data -/
def dV : V → PyData
  | .int i => .int i
  | .str s => .str s
  | _ => .none
def okV (v : V) : Prop := v = .non ∨ (∃ i, v = .int i ∧ i.natAbs < 2 ^ 140) ∨ ∃ x, v = .str x ∧ Sm (.str x)
def dat : Option (Bool × V) → PyData
  | none => .none
  | some (b, v) => .list [.str (nmOf b), dV v]
def okO (o : Option (Bool × V)) : Prop := ∀ b v, o = some (b, v) → okV v
def Tv (H : Hp) (o : Option (Bool × V)) (x : V) : Prop := (o = none ∧ x = .non) ∨ ∃ b v a, o = some (b, v) ∧ x = .ref a ∧ H a = some (.lst [.str (nmOf b), v])
theorem Tv.ex {H H' : Hp} {o : Option (Bool × V)} {x : V} (h : Tv H o x) (e : Ex H H') : Tv H' o x := by
  rcases h with h | ⟨b, v, a, h1, h2, h3⟩
  · exact .inl h
  · exact .inr ⟨b, v, a, h1, h2, e _ _ h3⟩
theorem dV_dp {K : PySem.W.Frag} {H : Hp} {v : V} (h : okV v) : Dp K H v (dV v) := by
  rcases h with rfl | ⟨i, rfl, _⟩ | ⟨x, rfl, _⟩
  · exact .non
  · exact .int i
  · exact .str x
theorem dV_sm {v : V} (h : okV v) : Sm (dV v) := by
  rcases h with rfl | ⟨i, rfl, h⟩ | ⟨x, rfl, h⟩
  · trivial
  · exact h
  · exact h
theorem dV_sz (v : V) : szD (dV v) = 1 := by cases v <;> rfl
theorem dV_depth (v : V) : PyData.depth (dV v) ≤ 1 := by cases v <;> simp [dV, PyData.depth]
theorem Tv.dp {K : PySem.W.Frag} {H : Hp} {o : Option (Bool × V)} {x : V} (h : Tv H o x) (k : okO o) : Dp K H x (dat o) := by
  rcases h with ⟨rfl, rfl⟩ | ⟨b, v, a, rfl, rfl, h⟩
  · exact .non
  · exact .lst (sq_of h) (.cons (.str _) (.cons (dV_dp (k b v rfl)) .nil))
theorem nm_sm (b : Bool) : Sm (.str (nmOf b)) := by cases b <;> exact ⟨by decide, by decide⟩
theorem dat_sm {o : Option (Bool × V)} (k : okO o) : Sm (dat o) := by
  cases o with
  | none => trivial
  | some z =>
    obtain ⟨b, v⟩ := z
    exact ⟨nm_sm b, dV_sm (k b v rfl), trivial⟩
theorem dat_sz (o : Option (Bool × V)) : szD (dat o) ≤ 3 := by
  cases o with
  | none => decide
  | some z =>
    obtain ⟨b, v⟩ := z
    show 1 + (1 + (szD (dV v) + 0)) ≤ 3
    rw [dV_sz]
    omega
theorem dat_depth (o : Option (Bool × V)) : PyData.depth (dat o) ≤ 4 := by
  cases o with
  | none => simp [dat, PyData.depth]
  | some z =>
    obtain ⟨b, v⟩ := z
    have := dV_depth v
    simp only [dat, PyData.depth, PyData.depthAll]
    omega
theorem firstBad_ok {C : Addr} : ∀ {ns : List Int} {l : Int} {i : Nat} {z : Addr × V}, firstBad C l i ns = some z → i + ns.length ≤ 100 → okV z.2
  | [], _, _, _, h, _ => nomatch h
  | n :: r, l, i, z, h, hl => by
    unfold firstBad at h
    rw [List.length_cons] at hl
    split at h
    · cases h
      exact .inr (.inl ⟨_, rfl, by omega⟩)
    · exact firstBad_ok h (by omega)
theorem tm_okV {ns : List Int} {pl : Str} {v : V} (h : tm ns pl = some v) (hl : ns.length ≤ 12) : okV v := by
  unfold tm chkM chkW at h
  by_cases h5 : ns.length = 5
  · rw [if_pos h5] at h
    cases q : firstBad 0 2 0 ns with
    | none =>
      rw [q] at h
      by_cases p : plOk pl <;> simp [p] at h
      exact .inl h.symm
    | some z =>
      rw [q] at h
      cases h
      exact firstBad_ok q (by omega)
  · rw [if_neg h5] at h
    cases h
    exact .inl rfl
theorem tk_okV {x : Str} {v : V} (h : tkd x = some v) (hx : Sm (.str x)) : okV v := by
  unfold tkd at h
  split at h
  · exact nomatch h
  · cases h
    exact .inr (.inr ⟨x, rfl, hx⟩)
theorem told1_ok {ns : List Int} {pl x : Str} (hl : ns.length ≤ 12) (hx : Sm (.str x)) : okO (told1 ns pl x) := fun b v h => by
  unfold told1 at h
  cases q : tm ns pl with
  | some z =>
    rw [q] at h
    cases h
    exact tm_okV q hl
  | none =>
    rw [q] at h
    obtain ⟨z, h1, h2⟩ := Option.map_eq_some_iff.mp h
    cases h2
    exact tk_okV h1 hx
theorem told2_ok {ns : List Int} {pl x y : Str} (hl : ns.length ≤ 12) (hx : Sm (.str x)) (hy : Sm (.str y)) : okO (told2 ns pl x y) := fun b v h => by
  unfold told2 at h
  cases q : told1 ns pl x with
  | some z =>
    rw [q] at h
    cases h
    exact told1_ok hl hx _ _ q
  | none =>
    rw [q] at h
    obtain ⟨z, h1, h2⟩ := Option.map_eq_some_iff.mp h
    cases h2
    exact tk_okV h1 hy
theorem et_isN {σ : L2.St} {H : Hp} {ta : TE} {v : V} (h : Ev ta σ H v) : EvT (tB (tIsN ta)) σ H (decide (v = .non)) := fun H1 e Q q => h H1 e _ fun H2 e2 => ⟨_, rfl, q H2 e2⟩
theorem asg_raw {te : TE} {g : TG} {tz : TS} {D : Ends} {σ : L2.St} {H : Hp} (h : te σ H fun x H1 => g x σ H1 (tz D)) : tSeq (tAsg te g) tz D σ H := h
/-- wrong != [] -/
theorem ev_neW {K : PySem.W.Frag} {σ : L2.St} {H : Hp} {ta : TE} {a : Addr} {o : Option V} (ha : Ev ta σ H (.ref a)) (h : H a = some (.lst (wOf o))) (k : ∀ v, o = some v → okV v) (hs : ∀ v, o = some v → SeqAt.shaped (.list [dV v]) = true) : Ev (tOp (rNeD K) ta (tLst tNil)) σ H (.bl o.isSome) :=
  ev_opL (xs := []) ha (el_lst ea_nil (by decide)) fun q H1 hq e => fun H2 e2 Q kq => by
    cases o with
    | none => exact ⟨.list [], .list [], .lst (sq_of (e2 _ _ (e _ _ h))) .nil, .lst (sq_of (e2 _ _ hq)) .nil, natD_shaped [], natD_shaped [], by
        have : PyData.eqv (.list []) (.list []) = true := by simp [PyData.eqv, PyData.eqvAll]
        rw [this]
        exact kq H2 (Ex.refl H2)⟩
    | some v => exact ⟨.list [dV v], .list [], .lst (sq_of (e2 _ _ (e _ _ h))) (.cons (dV_dp (k v rfl)) .nil), .lst (sq_of (e2 _ _ hq)) .nil, hs v rfl, natD_shaped [], by
        have : PyData.eqv (.list [dV v]) (.list []) = false := by simp [PyData.eqv, PyData.eqvAll]
        rw [this]
        exact kq H2 (Ex.refl H2)⟩
end Cf
namespace Cf
open PySem PySem.Spec PyProof.Rows L2 Evl
theorem firstBad_int {C : Addr} : ∀ {ns : List Int} {l : Int} {i : Nat} {z : Addr × V}, firstBad C l i ns = some z → ∃ j : Int, z.2 = .int j
  | [], _, _, _, h => nomatch h
  | n :: r, l, i, z, h => by
    unfold firstBad at h
    split at h
    · cases h
      exact ⟨_, rfl⟩
    · exact firstBad_int h
theorem tm_shape {ns : List Int} {pl : Str} {v : V} (h : tm ns pl = some v) : SeqAt.shaped (.list [dV v]) = true := by
  have hv : v = .non ∨ ∃ j : Int, v = .int j := by
    unfold tm chkM chkW at h
    by_cases h5 : ns.length = 5
    · rw [if_pos h5] at h
      cases q : firstBad 0 2 0 ns with
      | none =>
        rw [q] at h
        by_cases p : plOk pl <;> simp [p] at h
        exact .inl h.symm
      | some z =>
        rw [q] at h
        cases h
        exact .inr (firstBad_int q)
    · rw [if_neg h5] at h
      cases h
      exact .inl rfl
  rcases hv with rfl | ⟨j, rfl⟩
  · rfl
  · show (PyData.canLay0 (.list [.int j]) && decide (PyData.depth (.list [.int j]) ≤ 64)) = true
    simp [PyData.canLay0, PyData.canLayAll0, PyData.depth, PyData.depthAll]
def ds6 (o1 o2 : Option (Bool × V)) : List PyData := [dat o1, dat o1, dat o1, dat o1, dat o1, dat o2]
theorem ds6_sm {o1 o2 : Option (Bool × V)} (k1 : okO o1) (k2 : okO o2) : Sm (.list (ds6 o1 o2)) := ⟨dat_sm k1, dat_sm k1, dat_sm k1, dat_sm k1, dat_sm k1, dat_sm k2, trivial⟩
theorem ds6_sz (o1 o2 : Option (Bool × V)) : szD (.list (ds6 o1 o2)) ≤ 800 := by
  have h1 := dat_sz o1
  have h2 := dat_sz o2
  show 1 + (szD (dat o1) + (szD (dat o1) + (szD (dat o1) + (szD (dat o1) + (szD (dat o1) + (szD (dat o2) + 0)))))) ≤ 800
  omega
theorem ds6_depth (o1 o2 : Option (Bool × V)) : PyData.depth (.list (ds6 o1 o2)) ≤ 60 := by
  have h1 := dat_depth o1
  have h2 := dat_depth o2
  simp only [ds6, PyData.depth, PyData.depthAll]
  omega
theorem told2_of_some {ns : List Int} {pl x y : Str} {z : Bool × V} (h : told1 ns pl x = some z) : told2 ns pl x y = some z := by
  unfold told2
  rw [h]
theorem kdOk_good (x : Str) : inV (.str x) vKINDS = kdOk x := rfl
theorem toldP_lt {i : Nat} {ns : List Int} {pl x y : Str} (h : i < 5) : toldP (0 + (i : Int)) ns pl x y = told1 ns pl x := by
  unfold toldP
  rw [if_neg (by omega)]
theorem toldP_5 {ns : List Int} {pl x y : Str} : toldP (0 + ((5 : Nat) : Int)) ns pl x y = told2 ns pl x y := rfl
end Cf
namespace Cf
open PySem PySem.Spec PyProof.Rows L2 Evl
theorem lcr_go {tr : TA} {g : TG} {tt : TT} {te : TE} {vs : List Nat} {σ : L2.St} {H : Hp} {Q : VK} {n : Nat} (h : EvA tr σ H [.int (n : Nat)]) (hn : n ≤ 100000)
    (Pv : Hp → Addr → Nat → Hp → Prop) (h0 : ∀ H1 D, Ex H H1 → H1 D = none → Pv H1 D 0 (upd H1 D (.lst [])))
    (hs : ∀ H1 D i H', Ex H H1 → H1 D = none → i < n → Pv H1 D i H' → g (.int (0 + (i : Nat))) (wipe σ vs) H' fun σ2 H2 => wipe σ2 vs = wipe σ vs ∧ tt σ2 H2 fun b H3 =>
      if b = true then te σ2 H3 fun y H4 => ∃ acc, H4 D = some (.lst acc) ∧ acc.length < sizeLine ∧ Pv H1 D (i + 1) (upd H4 D (.lst (acc ++ [y]))) else Pv H1 D (i + 1) H3)
    (hd : ∀ H1 D H', Ex H H1 → H1 D = none → Pv H1 D n H' → Q (.ref D) H') : tLc (iRng1 tr) g tt te vs σ H Q :=
  h H (Ex.refl H) _ fun H1 e1 => ⟨(n : Int), rfl, by omega, by omega, fun D hD => lc_range (lo := 0) (n := n) (Pv H1 D) (h0 H1 D e1 hD) (fun i H' hi p => hs H1 D i H' e1 hD hi p) (fun H' p => hd H1 D H' e1 hD p)⟩
end Cf
namespace Cf
open PySem PySem.Spec PyProof.Rows L2 Evl
theorem yes_if {σ : L2.St} {H : Hp} {A B : Hp → Prop} (h : A H) : tYes σ H fun b H3 => if b = true then A H3 else B H3 := (if_true_of_ rfl h : if true = true then A H else B H)
end Cf
namespace Cf
open PySem PySem.Spec PyProof.Rows L2 Evl
theorem next_raw {D : Ends} {σ : L2.St} {H : Hp} (h : D.nx σ H) : tNext D σ H := h
theorem ret_raw {te : TE} {D : Ends} {σ : L2.St} {H : Hp} (h : te σ H D.rt) : tRet te D σ H := h
end Cf

namespace PySem.CfK
open PySem.W PySem.Calls PyProof.Rows PySem.HandSPX
/-! ## an own exception made by keywords alone -/
section
variable {M : Model} {A : Around} {E : Value → Shared → Prop} {h : Heap} {g : Array GenState} {d : Drawn} {t : Nat} {os : OsState}
variable {nm q : Str} {C N : Addr} {bs bm bmB : List Value} {hdct : Bool} {sn : List Str} {sub : List Value} {ab : Bool} {col : Option Bool} {dd : Option Addr} {k0 k1 k2 k3 k5 : Option Value} {B newId initId : String}
theorem check_new_ownK (F : ExcBaseFacts B newId initId bmB) (hT : ∀ X : String, bm.contains (.type X) = bmB.contains (.type X)) {kw : List (Str × Value)} {Q : Unit → Shared → Prop}
    (hC : h.get? C = some (excClassObj nm q C N bs bm hdct sn sub ab col dd k0 k1 k2 k3 k5 newId)) (hq : Q () ⟨h, g, d, t, os⟩) : wpAny M A (checkBuiltinCall newId ⟨[.ref C], kw⟩) Q E ⟨h, g, d, t, os⟩ := by
  have hcont : (Value.ref C :: bm).contains (.type B) = true := by rw [List.contains_cons, hT, F.hasB, Bool.or_true]
  have hstar := F.noStar
  simp only [checkBuiltinCall, F.newKind, F.newSplit, F.newRow]
  repeat (first | refine wpAny_loadPart_at hC ?_ | (refine wpAny_isSubtype_exc hC ?_; rw [hcont]) | refine wpAny_staticBase_exc hC ?_ | refine wpAny_madeBy_exc hC ?_ | simp only [bne_self_eq_false, Bool.false_eq_true, if_false] | wp_step)
  exact hq
end
section
variable {prog : Program} {w : World} {A : Around} {E : Value → Shared → Prop} {R : Result → Shared → Prop} {h : Heap} {g : Array GenState} {d : Drawn} {t : Nat} {os : OsState}
variable {nm q : Str} {C N : Addr} {bs bm bmB : List Value} {hdct : Bool} {sn : List Str} {sub : List Value} {ab : Bool} {col : Option Bool} {dd : Option Addr} {k0 k1 k2 k3 k5 : Option Value} {B newId initId : String}
theorem new_ownK (F : ExcBaseFacts B newId initId bmB) (hT : ∀ X : String, bm.contains (.type X) = bmB.contains (.type X)) {kw : List (Str × Value)}
    (hC : h.get? C = some (excClassObj nm q C N bs bm hdct sn sub ab col dd k0 k1 k2 k3 k5 newId))
    (hq : R (.ok (.ret (.ref (h.objs.size + 1)))) ⟨(h.push { cls := .type "tuple", data := .seq #[] }).push
      { cls := .ref C, data := .fields #[.ref h.objs.size, .none, .none, .none, .bool false, .none] }, g, d, t, os⟩) :
    codeAny (model prog w) A (.builtin newId ⟨[.ref C], kw⟩) R ⟨h, g, d, t, os⟩ := by
  have hends := F.ends
  have hcB : (Value.ref C :: bm).contains (.type B) = true := by rw [List.contains_cons, hT, F.hasB, Bool.or_true]
  have hcA : (Value.ref C :: bm).contains (.type "AttributeError") = false := by rw [List.contains_cons, hT, F.noAttr]; rfl
  have hcN : (Value.ref C :: bm).contains (.type "NameError") = false := by rw [List.contains_cons, hT, F.noName]; rfl
  refine codeAny_builtinAt F.entry ?_
  unfold Builtin.«BaseException.__new__»
  refine wpAt_bind ?_
  show wpAt _ _ _ (stack >>= _) _ _ _
  refine wpAt_bind (wpAt_stack fun p below => wpAt_of_wpAny ?_)
  wp_walk
  refine wpAt_of_wpAny ?_
  rw [F.owner]
  repeat (first | with_reducible refine wpAny_madeHere_exc F.canon hC ?_ | with_reducible refine wpAny_loadPart_at hC ?_ | (with_reducible refine wpAny_isSubtype_exc hC ?_; first | rw [hcB] | rw [hcA] | rw [hcN]) | wp_step)
  show R _ _
  rw [Heap.size_push]
  exact hq
theorem type_call_ownK (F : ExcBaseFacts B newId initId bmB) (hT : ∀ X : String, bm.contains (.type X) = bmB.contains (.type X)) {kw : List (Str × Value)} {fI : Addr} {Q : Fin → Shared → Prop}
    (hC : h.get? C = some (excClassObj nm q C N bs bm hdct sn sub ab col dd k0 k1 k2 k3 k5 newId))
    (hi : W.Looks (model prog w) h (typeLookup (.ref C) "__init__") (some (.ref fI))) (hb : ∀ self, W.Looks (model prog w) h (bindSpecial (.ref fI) self) (.ref fI, [self]))
    (hq : codeAny (model prog w) A (.call (.ref fI) ⟨[.ref (h.objs.size + 1)], kw⟩)
      (fun r s' => match r with | .ok (.ret v) => v = .none ∧ Q (.done (.ret (.ref (h.objs.size + 1)))) s' | .ok _ => False | .error e => E e s')
      ⟨(h.push (W.kdv_tup [])).push (excO C h.objs.size), g, d, t, os⟩) :
    wpAny (model prog w) A (Builtin.«type.__call__» ⟨[.ref C], kw⟩) Q E ⟨h, g, d, t, os⟩ := by
  repeat (first | with_reducible refine wpAny_loadPart_at hC ?_ | with_reducible refine wpAny_madeBy_exc hC ?_ | wp_step)
  refine codeAny_call_builtin_code (Code.quiet_builtin _ F.quiet) (check_new_ownK F hT hC ?_)
  refine new_ownK F hT hC ?_
  show wpAny _ _ _ _ _ _
  have k : ∀ b o, h.get? b = some o → ((h.push (W.kdv_tup [])).push (excO C h.objs.size)).get? b = some o := fun b o e => Heap.get?_push_of_some _ (Heap.get?_push_of_some _ e)
  have hC₁ := k _ _ hC
  have hget : ((h.push (W.kdv_tup [])).push (excO C h.objs.size)).get? (h.objs.size + 1) = some (excO C h.objs.size) := by heap_get
  have hcC : (Value.ref C :: bm).contains (.ref C) = true := by simp
  have i1 := hi.keeps k
  have b1 := (hb (.ref (h.objs.size + 1))).keeps k
  unfold isInstance
  repeat (first | with_reducible refine wpAny_loadPart_at hget ?_ | (with_reducible refine wpAny_isSubtype_exc hC₁ ?_; rw [hcC]) | wp_step)
  show wpAny _ _ (typeLookup (.ref C) _) _ _ _
  refine i1.at ?_
  refine wpAny_holding (wpAny_bind (b1.at ?_))
  refine wpAny_bind (wpAny_call (codeAny_mono hq fun r s' z => ?_))
  rcases r with e | (v | _ | _ | _) <;> first | exact z | exact z.elim | skip
  obtain ⟨rfl, z⟩ := z
  first
    | exact wpAny_pure (wpAny_pure z)
    | (wp_walk; exact z)
theorem call_ownK (F : ExcBaseFacts B newId initId bmB) (hT : ∀ X : String, bm.contains (.type X) = bmB.contains (.type X)) {kw : List (Str × Value)} {fI : Addr}
    (hC : h.get? C = some (excClassObj nm q C N bs bm hdct sn sub ab col dd k0 k1 k2 k3 k5 newId))
    (hi : W.Looks (model prog w) h (typeLookup (.ref C) "__init__") (some (.ref fI))) (hb : ∀ self, W.Looks (model prog w) h (bindSpecial (.ref fI) self) (.ref fI, [self]))
    (hq : codeAny (model prog w) (A.under (.builtin "type.__call__" ⟨[.ref C], kw⟩)) (.call (.ref fI) ⟨[.ref (h.objs.size + 1)], kw⟩) (W.InitBack (h.objs.size + 1) R)
      ⟨(h.push (W.kdv_tup [])).push (excO C h.objs.size), g, d, t, os⟩) :
    codeAny (model prog w) A (.call (.ref C) ⟨[], kw⟩) R ⟨h, g, d, t, os⟩ := by
  have f1 := tc_lookup
  have f2 := tc_bind (.ref C)
  have hTy : (⟨h, g, d, t, os⟩ : Shared).TypeIs (.ref C) "type" := ⟨_, hC, rfl⟩
  refine codeAny_of_tree ?_
  show wpAny _ _ (callAny (.ref C) _) _ _ _
  repeat (any_goals (first | assumption | with_reducible refine wpAny_loadPart_at hC ?_ | wp_step))
  refine ⟨rfl, ?_⟩
  refine codeAny_call_builtin_at (Code.quiet_builtin _ (by decide +kernel)) entry_typeCall (wpAny_check_type_call_sub hC (type_call_ownK F hT hC hi hb ?_))
  refine codeAny_mono hq fun r s' z => ?_
  rcases r with e | (v | _ | _ | _) <;> exact z
end
end PySem.CfK
namespace Cf
open PySem PySem.Spec PyProof.Rows L2 Evl
/-- the class, its __init__ as a def, also by keyword -/
def XiK (P : Program) (w : World) (K : PySem.W.Frag) (mg : Str → Option Value) (base : Heap) (x : Str) (C : Addr) : Prop :=
  ∃ fI fd, XC K mg x C fI ∧ FnOk P w K mg base CX0 1 fI fd ["self", "value"] (spInit K) ∧ Binds K fd ["self", "value"] [] ∧ ∀ (s : Shared) (a u : Value), BindsTo s fd ⟨[a], [(vVal, u)]⟩ [("self", a), ("value", u)]
theorem XiK.xi {P : Program} {w : World} {K : PySem.W.Frag} {mg : Str → Option Value} {base : Heap} {x : Str} {C : Addr} (h : XiK P w K mg base x C) : Xi P w K mg base x C := by
  obtain ⟨fI, fd, a, b, c, _⟩ := h
  exact ⟨fI, fd, a, b, c⟩
section
variable {X : Cx} {x : Str} {C : Addr} {kws : List Keyword} {tk : TA} {p pos : Pos}
theorem pmk_zK {k : Nat} (T : XiK X.prog X.w X.K X.mg X.base x C) (hr : Room k X.A) (hkw : PK X kws tk) (hg : Gl X x) (hk : 2 ≤ k := by decide)
    (hall : (backToKw pos (keywordEach kws X.env)).all (·.1.isSome) = true := by rfl)
    (hks : (backToKw pos (keywordEach kws X.env)).filterMap (·.1) = [vVal] := by rfl) (hdb : (x == ("__debug__" : Str)) = false := by decide)
    (hpl : ((backTo pos (starEach [] X.env)).any (·.1) || (backToKw pos (keywordEach kws X.env)).any (·.1.isNone)) = false := by rfl) :
    PMk X (.Call (.Name x p) [] kws pos) (fun σ H Q => tk σ H fun zs H1 => ∃ v, zs = [v] ∧ Out C v H1 Q) := by
  obtain ⟨fI, fd, T, F1, hb, hbk⟩ := T
  intro pins s σ H Q I h
  obtain ⟨nm, q, N, bs, bm, sn, sub, ab, col, dd, k0, k1, k2, k3, k5, hC, hbm⟩ := T.o.cls
  refine wpAny_Call_Name_kw (ld_glob I hg T.g ?_ hdb)
  refine PySem.W.callWith_KW0 (h₀ := X.base) I.ok.mod.kin T.o.kC hall (thn (hkw.run pos pins s σ H _ I h) fun ws s1 hh => ?_) hpl
  obtain ⟨zs, H1, I1, rz, v, rfl, hO⟩ := hh
  refine ⟨I1.kIn, ?_⟩
  rw [hks]
  cases rz with
  | @cons _ u _ us rv rn =>
    cases rn
    show wpAny _ _ (call (.ref C) [] [(vVal, u)]) _ _ _
    obtain ⟨hp, g, dr, tk', os⟩ := s1
    have hsz : hp.objs.size ≤ hp.objs.size + 1 := Nat.le_succ _
    have hn : H1 (hp.objs.size + 1) = none := I1.hok.fresh hsz
    have hq : spInit X.K [.ref (hp.objs.size + 1), v] (upd H1 (hp.objs.size + 1) (exo (hp.objs.size + 1) C none)) (fun v' H2 => v' = .non ∧ ∃ (d : Addr) (fs : List (Str × V)), H2 (hp.objs.size + 1) = some (exo (hp.objs.size + 1) C (some d)) ∧ H2 d = some (exd d fs) ∧ H1 d = none ∧ Q (.ref C) (some d) (upd (del H2 (hp.objs.size + 1)) d (.xd fs))) (fun _ _ _ => False) := by
      refine ⟨hp.objs.size + 1, v, C, rfl, T.o, T.no, upd_same, fun dx ndx nea => ⟨rfl, dx, [(vVal, v)], upd_same, by rw [upd_ne nea, upd_same], ?_, ?_⟩⟩
      · rw [upd_ne nea] at ndx
        exact ndx
      · rw [upd_ne nea] at ndx
        refine hO dx _ ndx (fun b o q => ?_) upd_same
        have nb : b ≠ hp.objs.size + 1 := fun z => by rw [z, hn] at q; cases q
        have nd : b ≠ dx := fun z => by rw [z, ndx] at q; cases q
        rw [upd_ne nd, del_ne nb, upd_ne nb, upd_ne nd, upd_ne nb]
        exact q
    have kk : ∀ b o, hp.get? b = some o → ((hp.push (PySem.W.kdv_tup [])).push (PySem.HandSPX.excO C hp.objs.size)).get? b = some o := fun b o e => Heap.get?_push_of_some _ (Heap.get?_push_of_some _ e)
    have hget : ((hp.push (PySem.W.kdv_tup [])).push (PySem.HandSPX.excO C hp.objs.size)).get? (hp.objs.size + 1) = some (PySem.HandSPX.excO C hp.objs.size) := by heap_get
    have I2 : Inv X pins σ (upd H1 (hp.objs.size + 1) (exo (hp.objs.size + 1) C none)) ⟨(hp.push (PySem.W.kdv_tup [])).push (PySem.HandSPX.excO C hp.objs.size), g, dr, tk', os⟩ :=
      I1.laid (t' := tk') (a := hp.objs.size + 1) (o := exo (hp.objs.size + 1) C none) (h' := (hp.push (PySem.W.kdv_tup [])).push (PySem.HandSPX.excO C hp.objs.size)) kk hsz (exo_ok hget)
    refine wpAny_call (PySem.CfK.call_ownK F.excBase_ValueError (fun Y => PySem.HandSPX.refsVE_contains Y bm hbm) (I1.kIn _ _ hC) (PySem.W.looks_findIn I1.kIn T.iC) (fun self => PySem.W.bind_fn I1.kIn self T.tI)
      (codeAny_mono (F1.run _ X.stack _ _ ⟨[Value.ref (hp.objs.size + 1)], [(vVal, u)]⟩ [Value.ref (hp.objs.size + 1), u] [.ref (hp.objs.size + 1), v] _ (fun _ _ _ => False) ((hr.mono (j := 1 + 1) hk).make C [] [(vVal, u)]) (I2.env0.make C [] [(vVal, u)]) (hbk _ _ _) (.cons rfl (.cons rv .nil)) hq) fun r s' hq' => ?_))
    cases r with
    | error er => exact (pass0 : Passes CX0 X _) pins σ _ _ er s' I2 hq'
    | ok fl =>
      cases fl with
      | ret u' =>
        obtain ⟨v', H2, os2, bare2, un2, hok2, rv', ev, d, fs, ea, ed, hd1, q2⟩ := hq'
        subst ev
        obtain ⟨h2, g2, d2, t2, os'⟩ := s'
        exact ⟨rv', mk_end (raises_own T.o.exC T.o.tyC) I1 hsz kk un2 hok2 os2 bare2 ea ed hd1 q2⟩
      | next => exact False.elim hq'
      | brk => exact False.elim hq'
      | cont => exact False.elim hq'
end
end Cf

namespace Cf
open PySem PySem.Spec PyProof.Rows L2 Evl
/-! ## the bag of k75 -/
def bagL (l : Addr) (left t bl : Int) : List (Key × V) := [(.inr "great", .ref l), (.inr "left", .int left), (.inr "turn", .int t), (.inr "blend", .int bl)]
def Bag (H : Hp) (bg : Addr) (n : Nat) : Prop := ∃ (l : Addr) (gs : List Int) (left t bl : Int), H bg = some (.dK (bagL l left t bl)) ∧ H l = some (.lst (gs.map V.int)) ∧ 0 ≤ t ∧ t ≤ n ∧ 0 ≤ bl ∧ bl < 2305843009213693951 ∧ gs.length ≤ 100
theorem Bag.ex {H H' : Hp} {bg : Addr} {n : Nat} (h : Bag H bg n) (e : Ex H H') : Bag H' bg n := by
  obtain ⟨l, gs, left, t, bl, a, b, c⟩ := h
  exact ⟨l, gs, left, t, bl, e _ _ a, e _ _ b, c⟩
theorem Bag.le {H : Hp} {bg : Addr} {n k : Nat} (h : Bag H bg n) (e : n ≤ k) : Bag H bg k := by
  obtain ⟨l, gs, left, t, bl, a, b, c1, c2, c3⟩ := h
  exact ⟨l, gs, left, t, bl, a, b, c1, by omega, c3⟩
def TupK (H H' : Hp) : Prop := ∀ b xs, H b = some (.tup xs) → H' b = some (.tup xs)
theorem TupK.of {H H' : Hp} (e : Ex H H') : TupK H H' := fun b xs h => e _ _ h
theorem TupK.trans {H H1 H2 : Hp} (a : TupK H H1) (b : TupK H1 H2) : TupK H H2 := fun c xs h => b c xs (a c xs h)
theorem TupK.upd {H : Hp} {p : Addr} {o u : HO} (h : H p = some u) (n : ∀ xs, u ≠ .tup xs) : TupK H (upd H p o) := fun b xs q => by
  rw [upd_ne (fun z => by rw [z, h] at q; exact n xs (Option.some.inj q))]
  exact q
def spBag (K : PySem.W.Frag) : Sp := fun vs H Q _ => ∃ (a : Addr) (ns : List Int), vs = [.ref a] ∧ SqL K H a (ns.map V.int) ∧ ns.length ≤ 63 ∧ ∀ bg H', H bg = none → Ex H H' → Bag H' bg 0 → Q (.ref bg) H'
def spBDraw : Sp := fun vs H Q _ => ∃ bg many n, vs = [.ref bg, .int many] ∧ 0 < many ∧ many.natAbs < 2 ^ 200 ∧ n ≤ 1000 ∧ Bag H bg n ∧ ∀ H' v, TupK H H' → Bag H' bg (n + 1) → 0 ≤ v → v < many → Q (.int v) H'
theorem ev_dgetK {σ : L2.St} {H : Hp} {ta : TE} {bg : Addr} {kvs : List (Key × V)} {k : Str} {v : V} (ha : Ev ta σ H (.ref bg)) (h : H bg = some (.dK kvs)) (hv : valV kvs (.inr k) = some v) : Ev (tDGet ta (tC (.str k))) σ H v := fun H1 e Q q =>
  ha H1 e _ fun H2 e2 => ⟨bg, v, rfl, by
    have g := DGet.k (k := .inr k) (e2 _ _ (e _ _ h))
    rw [hv] at g
    exact g, q H2 e2⟩
theorem s_dputK {σ : L2.St} {H : Hp} {ta tv : TE} {D : Ends} {bg : Addr} {kvs : List (Key × V)} {k : Str} {v : V} (hv : Ev tv σ H v) (ho : Ev ta σ H (.ref bg)) (h : H bg = some (.dK kvs)) (hl : kvs.length < 100000) (n : ∀ H1, Ex H H1 → D.nx σ (upd H1 bg (.dK (putK kvs (.inr k) v)))) : sDPut ta (tC (.str k)) tv D σ H :=
  hv H (Ex.refl H) _ fun H1 e1 => ho H1 e1 _ fun H2 e2 => ⟨bg, _, rfl, DPut.k (k := .inr k) (e2 _ _ (e1 _ _ h)) (sz_lt hl), n H2 (e1.trans e2)⟩
theorem q_dputK {σ : L2.St} {H : Hp} {ta tv : TE} {tz : TS} {D : Ends} {bg : Addr} {kvs : List (Key × V)} {k : Str} {v : V} (hv : Ev tv σ H v) (ho : Ev ta σ H (.ref bg)) (h : H bg = some (.dK kvs)) (hl : kvs.length < 100000) (n : ∀ H1, Ex H H1 → tz D σ (upd H1 bg (.dK (putK kvs (.inr k) v)))) : tSeq (sDPut ta (tC (.str k)) tv) tz D σ H :=
  s_dputK (D := { D with nx := tz D }) hv ho h hl n
end Cf
namespace Cf
open PySem PySem.Spec PyProof.Rows L2 Evl
def rAbs_ : List V → Hp → VK → Prop := fun xs H Q => ∃ i, xs = [.int i] ∧ Q (.int (if i < 0 then -i else i)) H
end Cf
namespace Cf
open PySem PySem.Spec PyProof.Rows L2 Evl
/-! ## exceptions made -/
def tMz (C : Addr) (ta : TA) : TE := fun σ H Q => ta σ H fun vs H1 => ∃ v, vs = [v] ∧ Out C v H1 fun cls d H' => ∀ a, H' a = none → Q (.ref a) (upd H' a (exk a cls d))
section
variable {X : Cx} {x : Str} {C : Addr} {e : Expr} {ta : TA} {p pos : Pos} {kws : List Keyword} {tk : TA}
theorem pe_mz {k : Nat} (T : XiK X.prog X.w X.K X.mg X.base x C) (hr : Room k X.A) (ha : PA X [e] ta) (hg : Gl X x) (hk : 2 ≤ k := by decide) (hdb : (x == ("__debug__" : Str)) = false := by decide)
    (he : starEach (e :: []) X.env = (false, eval e X.env) :: starEach [] X.env := by rfl) (hpl : (backTo pos (starEach [] X.env)).any (·.1) = false := by rfl) : PE X (.Call (.Name x p) [e] [] pos) (tMz C ta) :=
  pe_made (pmk_z T.xi hr ha hg hk hdb he hpl)
theorem pe_mzK {k : Nat} (T : XiK X.prog X.w X.K X.mg X.base x C) (hr : Room k X.A) (hkw : PK X kws tk) (hg : Gl X x) (hk : 2 ≤ k := by decide)
    (hall : (backToKw pos (keywordEach kws X.env)).all (·.1.isSome) = true := by rfl)
    (hks : (backToKw pos (keywordEach kws X.env)).filterMap (·.1) = [vVal] := by rfl) (hdb : (x == ("__debug__" : Str)) = false := by decide)
    (hpl : ((backTo pos (starEach [] X.env)).any (·.1) || (backToKw pos (keywordEach kws X.env)).any (·.1.isNone)) = false := by rfl) : PE X (.Call (.Name x p) [] kws pos) (tMz C tk) :=
  pe_made (pmk_zK T hr hkw hg hk hall hks hdb hpl)
end
/-- a new exception of the class C with v -/
def EvX (te : TE) (σ : L2.St) (H : Hp) (C : Addr) (v : V) : Prop := ∀ H1, Ex H H1 → ∀ Q : VK, (∀ p H2, H1 p = none → Ex H1 H2 → ExAt H2 p C v → Q (.ref p) H2) → te σ H1 Q
theorem ev_mz {σ : L2.St} {H : Hp} {te : TE} {C : Addr} {v : V} (h : Ev te σ H v) : EvX (tMz C (tCons te tNil)) σ H C v := fun H1 e Q q => h H1 e _ fun H2 e2 => ⟨v, rfl, fun d H3 nd e3 hd a na => by
  have nda : d ≠ a := fun z => by rw [z, na] at hd; exact nomatch hd
  exact q a _ (fresh_back (e2.trans e3) na) ((e2.trans e3).trans (Ex.new na)) ⟨d, upd_same, by rw [upd_ne nda]; exact hd⟩⟩
/-- (X(v), X(value=v)) -/
def PairAt (H : Hp) (p C : Addr) (v : V) : Prop := ∃ a b, H p = some (.tup [.ref a, .ref b]) ∧ ExAt H a C v ∧ ExAt H b C v
theorem PairAt.ex {H H' : Hp} {p C : Addr} {v : V} (h : PairAt H p C v) (e : Ex H H') : PairAt H' p C v := by
  obtain ⟨a, b, h1, h2, h3⟩ := h
  exact ⟨a, b, e _ _ h1, h2.ex e, h3.ex e⟩
theorem PairAt.bu {H H' : Hp} {p C l : Addr} {v : V} {xs : List V} (h : PairAt H p C v) (hl : H l = some (.lst xs)) (e : Bu l H H') : PairAt H' p C v := by
  obtain ⟨a, b, h1, h2, h3⟩ := h
  exact ⟨a, b, e _ _ (ne_of h1 hl fun z => nomatch z) h1, h2.bu hl e, h3.bu hl e⟩
theorem eu_pair {σ : L2.St} {H : Hp} {ta tb : TE} {C : Addr} {v : V} (ha : EvX ta σ H C v) (hb : EvX tb σ H C v) : ∀ H1, Ex H H1 → ∀ Q : VK, (∀ p H2, H1 p = none → Ex H1 H2 → PairAt H2 p C v → Q (.ref p) H2) → tTup (tCons ta (tCons tb tNil)) σ H1 Q := fun H1 e Q q =>
  ha H1 e _ fun a H2 na e2 h2 => hb H2 (e.trans e2) _ fun b H3 nb e3 h3 => ⟨by show 2 ≤ sizeLine; decide, fun p np => q p _ (fresh_back (e2.trans e3) np) ((e2.trans e3).trans (Ex.new np)) ⟨a, b, upd_same, (h2.ex e3).ex (Ex.new np), h3.ex (Ex.new np)⟩⟩
/-- the list of the pairs so far -/
def Mad (H : Hp) (l : Addr) (cs : List Addr) (v : V) : Prop := ∃ ps : List Addr, H l = some (.lst (ps.map V.ref)) ∧ ps.length = cs.length ∧ ∀ (j : Nat) (c : Addr), cs[j]? = some c → ∃ p, ps[j]? = some p ∧ PairAt H p c v
theorem Mad.ex {H H' : Hp} {l : Addr} {cs : List Addr} {v : V} (h : Mad H l cs v) (e : Ex H H') : Mad H' l cs v := by
  obtain ⟨ps, a, b, c⟩ := h
  refine ⟨ps, e _ _ a, b, fun j cc q => ?_⟩
  obtain ⟨p, p1, p2⟩ := c j cc q
  exact ⟨p, p1, p2.ex e⟩
theorem q_mad {K : PySem.W.Frag} {σ : L2.St} {H : Hp} {l C : Addr} {cs : List Addr} {v : V} {i : Nat} {ta tb : TE} {tz : TS} {D : Ends} (h : Mad H l cs v) (hi : σ[i]? = some (some (.ref l))) (hd : cs.length < 100000) (ha : EvX ta σ H C v) (hb : EvX tb σ H C v)
    (k : ∀ H', Bu l H H' → Mad H' l (cs ++ [C]) v → tz D σ H') : tSeq (tDrop (tBM K "list" rAppend (tVar i) (tCons (tTup (tCons ta (tCons tb tNil))) tNil))) tz D σ H := by
  obtain ⟨ps, h1, h2, h3⟩ := h
  refine drop_raw (app_raw (K := K) hi h1 ?_)
  refine eu_pair ha hb H (Ex.refl H) _ fun p H1 np e1 hp => ⟨l, ps.map V.ref, .ref p, rfl, rfl, e1 _ _ h1, sz_lt (by rw [List.length_map]; omega), ?_⟩
  have hl1 := e1 _ _ h1
  have bu : Bu l H (upd H1 l (.lst (ps.map V.ref ++ [.ref p]))) := fun c o nc q => by rw [upd_ne nc]; exact e1 _ _ q
  have bu1 : Bu l H1 (upd H1 l (.lst (ps.map V.ref ++ [.ref p]))) := fun c o nc q => by rw [upd_ne nc]; exact q
  refine k _ bu ⟨ps ++ [p], by rw [upd_same, List.map_append]; rfl, by rw [List.length_append, List.length_append, h2]; rfl, fun j cc q => ?_⟩
  by_cases hj : j < cs.length
  · rw [List.getElem?_append_left hj] at q
    obtain ⟨p2, q1, q2⟩ := h3 j cc q
    exact ⟨p2, by rw [List.getElem?_append_left (by omega)]; exact q1, q2.bu h1 bu⟩
  · rw [List.getElem?_append_right (by omega)] at q
    have hj2 : j - cs.length = 0 := by
      have := (List.getElem?_eq_some_iff.mp q).1
      simp at this
      omega
    rw [hj2] at q
    have q : C = cc := Option.some.inj q
    subst q
    exact ⟨p, by rw [List.getElem?_append_right (by omega), h2, hj2]; rfl, hp.bu hl1 bu1⟩
def spMade (cs : List Addr) : Sp := fun vs H Q _ => ∃ v, vs = [v] ∧ ∀ l H', H l = none → Ex H H' → Mad H' l cs v → Q (.ref l) H'
end Cf

namespace Cf
open PySem PySem.Spec PyProof.Rows L2 Evl
def ExE (H : Hp) (a C : Addr) : Prop := (∃ v, ExAt H a C v) ∨ H a = some (ExO (.ref C) a)
theorem ExE.ex {H H' : Hp} {a C : Addr} (h : ExE H a C) (e : Ex H H') : ExE H' a C := by
  rcases h with ⟨v, h⟩ | h
  · exact .inl ⟨v, h.ex e⟩
  · exact .inr (e _ _ h)
def rIsE2 (K : PySem.W.Frag) : List V → Hp → VK → Prop := fun xs H Q => ∃ (a D : Addr) (c : V) (cv : Value) (b : Bool), xs = [.ref a, c] ∧ ExE H a D ∧ ExcC K D ∧ (∀ u, RelV c u → u = cv) ∧ PySem.W.kitOne K (.ref D) cv = some b ∧ Q (.bl b) H
theorem call_isE2 {X : Cx} : CallR X (.builtin "isinstance") (rIsE2 X.K) := by
  intro pins s σ H xs us Q I r h
  obtain ⟨a, D, c, cv, b, rfl, hE, C, hcv, e, q⟩ := h
  rcases hE with ⟨v, dd, ea, ed⟩ | ea
  · exact call_isK pins s σ H _ us Q I r ⟨a, D, dd, _, c, cv, b, rfl, ea, ed, C, hcv, e, q⟩
  · cases r with
    | cons rx rr =>
      cases rr with
      | cons rt rr =>
        cases rr
        cases rx
        have ec := hcv _ rt
        subst ec
        obtain ⟨⟨oe, vs, ha, hz, hd, _⟩, _, _⟩ := I.hok a _ ea
        have J : PySem.W.InstAt s.heap a oe D none := ⟨ha, hz.1, by unfold PySem.W.notCls; rw [hd] <;> rfl, by rw [hz.2]; trivial⟩
        have hcl : (PySem.W.clsIn X.K D).isSome = true := by
          have := C.hd
          unfold PySem.W.hasDictIn at this
          cases q2 : PySem.W.clsIn X.K D with
          | none => rw [q2] at this; exact absurd this (by decide)
          | some _ => rfl
        exact PySem.W.kia_one (PySem.W.kitx_exc hcl C.hg C.hk C.hs C.ha C.hn C.ht C.hm) I.kIn J e (fun z => nomatch z) fun tk => ⟨.bl b, H, I.kept (t' := tk) fun _ _ z => z, rfl, q⟩
section
variable {K : PySem.W.Frag} {σ : L2.St} {H : Hp} {ta : TE} {a C c : Addr} {v : V} {b : Bool}
theorem ev_isE2 (ha : Ev ta σ H (.ref a)) (h : ExE H a C) (e : ExcC K C) (k : PySem.W.kitOne K (.ref C) (.ref c) = some b) : Ev (tCB (rIsE2 K) (tCons ta (tCons (tC (.ref c)) tNil))) σ H (.bl b) := ev_cb (ea_cons ha (ea_cons ev_c ea_nil)) fun H1 e1 Q1 q1 =>
  ⟨a, C, .ref c, .ref c, b, rfl, h.ex e1, e, fun u r => r, k, q1 H1 (Ex.refl H1)⟩
theorem ev_isE2T {n : String} (ha : Ev ta σ H (.ref a)) (h : ExE H a C) (e : ExcC K C) (k : PySem.W.kitOne K (.ref C) (.type n) = some b) : Ev (tCB (rIsE2 K) (tCons ta (tCons (tC (.ty n)) tNil))) σ H (.bl b) := ev_cb (ea_cons ha (ea_cons ev_c ea_nil)) fun H1 e1 Q1 q1 =>
  ⟨a, C, .ty n, .type n, b, rfl, h.ex e1, e, fun u r => r, k, q1 H1 (Ex.refl H1)⟩
end
def ind9 (j : Nat) : List V := (List.range 9).map fun i => V.bl (decide (V.int (i : Nat) = V.int (j : Nat)))
/-- the nine classes: what is known of them -/
structure Er10 (K : PySem.W.Frag) (mg : Str → Option Value) (c0 c1 c2 c3 c4 c5 c6 c7 c8 cE : Addr) : Prop where
  g0 : mg "InvalidModel" = some (.ref c0)
  g1 : mg "InvalidType" = some (.ref c1)
  g2 : mg "InvalidVariables" = some (.ref c2)
  g3 : mg "InvalidExpression" = some (.ref c3)
  g4 : mg "InvalidValues" = some (.ref c4)
  g5 : mg "InvalidNumber" = some (.ref c5)
  g6 : mg "NotAdmitted" = some (.ref c6)
  g7 : mg "NothingToUndo" = some (.ref c7)
  g8 : mg "Unreadable" = some (.ref c8)
  gE : mg "CastError" = some (.ref cE)
  f0 : IsF K c0 c0 c1 c2 c3 c4 c5 c6 c7 c8 true false false false false false false false false
  f1 : IsF K c1 c0 c1 c2 c3 c4 c5 c6 c7 c8 false true false false false false false false false
  f2 : IsF K c2 c0 c1 c2 c3 c4 c5 c6 c7 c8 false false true false false false false false false
  f3 : IsF K c3 c0 c1 c2 c3 c4 c5 c6 c7 c8 false false false true false false false false false
  f4 : IsF K c4 c0 c1 c2 c3 c4 c5 c6 c7 c8 false false false false true false false false false
  f5 : IsF K c5 c0 c1 c2 c3 c4 c5 c6 c7 c8 false false false false false true false false false
  f6 : IsF K c6 c0 c1 c2 c3 c4 c5 c6 c7 c8 false false false false false false true false false
  f7 : IsF K c7 c0 c1 c2 c3 c4 c5 c6 c7 c8 false false false false false false false true false
  f8 : IsF K c8 c0 c1 c2 c3 c4 c5 c6 c7 c8 false false false false false false false false true
  fE : IsF K cE c0 c1 c2 c3 c4 c5 c6 c7 c8 false false false false false false false false false
  e0 : PySem.W.kitOne K (.ref c0) (.ref cE) = some true
  e1 : PySem.W.kitOne K (.ref c1) (.ref cE) = some true
  e2 : PySem.W.kitOne K (.ref c2) (.ref cE) = some true
  e3 : PySem.W.kitOne K (.ref c3) (.ref cE) = some true
  e4 : PySem.W.kitOne K (.ref c4) (.ref cE) = some true
  e5 : PySem.W.kitOne K (.ref c5) (.ref cE) = some true
  e6 : PySem.W.kitOne K (.ref c6) (.ref cE) = some true
  e7 : PySem.W.kitOne K (.ref c7) (.ref cE) = some true
  e8 : PySem.W.kitOne K (.ref c8) (.ref cE) = some true
def spFlags (K : PySem.W.Frag) (c0 c1 c2 c3 c4 c5 c6 c7 c8 : Addr) : Sp := fun vs H Q _ => ∃ a C b0 b1 b2 b3 b4 b5 b6 b7 b8, vs = [.ref a] ∧ ExE H a C ∧ IsF K C c0 c1 c2 c3 c4 c5 c6 c7 c8 b0 b1 b2 b3 b4 b5 b6 b7 b8 ∧
  ∀ l H', H l = none → Ex H H' → H' l = some (.lst [.bl b0, .bl b1, .bl b2, .bl b3, .bl b4, .bl b5, .bl b6, .bl b7, .bl b8]) → Q (.ref l) H'
/-! ### repr of any small datum -/
def rReprA (K : PySem.W.Frag) : List V → Hp → VK → Prop := fun xs H Q => rRepr K xs H Q ∨ (xs = [.non] ∧ Q (.str "None") H) ∨ (∃ i, xs = [.int i] ∧ i.natAbs.log2 < 1920 ∧ Q (.str (toString i)) H) ∨ ∃ x, xs = [.str x] ∧ (reprText x).length ≤ sizeLine ∧ Q (.str (reprText x)) H
theorem call_reprA {X : Cx} (hG : X.A.guards = some []) (hu : X.A.units + 64 < cLine) : CallR X (.builtin "repr") (rReprA X.K) := by
  intro pins s σ H xs us Q I r h
  rcases h with h | ⟨rfl, q⟩ | ⟨i, rfl, hi, q⟩ | ⟨x, rfl, hx, q⟩
  · exact call_repr hG hu pins s σ H xs us Q I r h
  · obtain ⟨u, rfl, rx⟩ := vals1 r
    obtain rfl : u = Value.none := rx
    exact PySem.P.repr_of_none ⟨.str "None", H, I.tok _, ⟨_, rfl⟩, q⟩
  · obtain ⟨u, rfl, rx⟩ := vals1 r
    obtain ⟨t, rfl⟩ : ∃ t, u = Value.int i t := rx
    exact PySem.P.repr_of_int hi ⟨.str (toString i), H, I.tok _, ⟨_, rfl⟩, q⟩
  · obtain ⟨u, rfl, rx⟩ := vals1 r
    obtain ⟨t, rfl⟩ : ∃ t, u = Value.str x t := rx
    exact PySem.P.repr_of_str ⟨.str (reprText x), H, I.tok _, ⟨_, rfl⟩, q⟩ hx
def Rb (K : PySem.W.Frag) (H : Hp) (v : V) (t : Str) : Prop := (∃ a d, v = .ref a ∧ Dp K H (.ref a) d ∧ Sm d ∧ szD d ≤ 800 ∧ d.depth ≤ 60 ∧ t = d.shown) ∨ (v = .non ∧ t = "None") ∨ (∃ i, v = .int i ∧ i.natAbs.log2 < 1920 ∧ t = toString i) ∨ ∃ x, v = .str x ∧ (reprText x).length ≤ sizeLine ∧ t = reprText x
theorem Rb.ex {K : PySem.W.Frag} {H H' : Hp} {v : V} {t : Str} (h : Rb K H v t) (e : Ex H H') : Rb K H' v t := by
  rcases h with ⟨a, d, h1, h2, h3⟩ | h
  · exact .inl ⟨a, d, h1, dp_ex e d _ h2, h3⟩
  · exact .inr h
theorem ev_reprA {K : PySem.W.Frag} {σ : L2.St} {H : Hp} {ta : TE} {v : V} {t : Str} (ha : Ev ta σ H v) (h : Rb K H v t) : Ev (tCB (rReprA K) (tCons ta tNil)) σ H (.str t) := ev_cb (ea_cons ha ea_nil) fun H1 e1 Q q => by
  rcases h.ex e1 with ⟨a, d, rfl, h2, h3, h4, h5, rfl⟩ | ⟨rfl, rfl⟩ | ⟨i, rfl, hi, rfl⟩ | ⟨x, rfl, hx, rfl⟩
  · exact .inl ⟨a, d, rfl, h2, (sm_all d h3).1, (sm_all d h3).2.1, sm_len h3 h4, h5, q H1 (Ex.refl H1)⟩
  · exact .inr (.inl ⟨rfl, q H1 (Ex.refl H1)⟩)
  · exact .inr (.inr (.inl ⟨i, rfl, hi, q H1 (Ex.refl H1)⟩))
  · exact .inr (.inr (.inr ⟨x, rfl, hx, q H1 (Ex.refl H1)⟩))
theorem bdraw_at {σ : L2.St} {H : Hp} {ta : TA} {bg : Addr} {many : Int} {n : Nat} {E : XK} {Q : VK} (h : EvA ta σ H [.ref bg, .int many]) (m0 : 0 < many) (m1 : many.natAbs < 2 ^ 200) (hn : n ≤ 1000) (g : Bag H bg n)
    (k : ∀ H' v, TupK H H' → Bag H' bg (n + 1) → 0 ≤ v → v < many → Q (.int v) H') : tCall spBDraw [] E ta σ H Q :=
  h H (Ex.refl H) _ fun H1 e1 => ⟨bg, many, n, rfl, m0, m1, hn, g.ex e1, fun H' v t b v0 v1 => k H' v ((TupK.of e1).trans t) b v0 v1⟩
/-- lists of bools compared -/
theorem ev_neB {K : PySem.W.Frag} {σ : L2.St} {H : Hp} {ta tb : TE} {bs : List Bool} (ha : EvL ta σ H (bs.map V.bl)) (hb : EvL tb σ H (bs.map V.bl)) (hs : SeqAt.shaped (.list (bs.map PyData.bool)) = true) (he : PyData.eqv (.list (bs.map PyData.bool)) (.list (bs.map PyData.bool)) = true) : Ev (tOp (rNeD K) ta tb) σ H (.bl false) := by
  have dp : ∀ (bs : List Bool) (H1 : Hp), DpAll K H1 (bs.map V.bl) (bs.map PyData.bool) := fun bs H1 => by
    induction bs with
    | nil => exact .nil
    | cons b bs ih => exact .cons (.bl b) ih
  exact ev_neL (ds := bs.map PyData.bool) ha hb (fun H1 _ => dp bs H1) (fun H1 _ => dp bs H1) hs he
theorem ev_eqB {K : PySem.W.Frag} {σ : L2.St} {H : Hp} {ta tb : TE} {bs : List Bool} (ha : EvL ta σ H (bs.map V.bl)) (hb : EvL tb σ H (bs.map V.bl)) (hs : SeqAt.shaped (.list (bs.map PyData.bool)) = true) (he : PyData.eqv (.list (bs.map PyData.bool)) (.list (bs.map PyData.bool)) = true) : Ev (tOp (rEqD K) ta tb) σ H (.bl true) := by
  have dp : ∀ (bs : List Bool) (H1 : Hp), DpAll K H1 (bs.map V.bl) (bs.map PyData.bool) := fun bs H1 => by
    induction bs with
    | nil => exact .nil
    | cons b bs ih => exact .cons (.bl b) ih
  exact ev_opLL ha hb fun p q H1 hp hq e => fun H2 e2 Q k => ⟨.list (bs.map PyData.bool), .list (bs.map PyData.bool), .lst (sq_of (e2 _ _ hp)) (dp bs H2), .lst (sq_of (e2 _ _ hq)) (dp bs H2), hs, hs, by rw [he]; exact k H2 (Ex.refl H2)⟩
end Cf

namespace Cf
open PySem PySem.Spec PyProof.Rows L2 Evl
/-! ## expressions and conditions, plainly -/
inductive Bo where
  | add | sub | mul
  deriving DecidableEq
def Bo.s : Bo → Str
  | .add => "add" | .sub => "sub" | .mul => "mul"
inductive Nd where
  | var (x : Str)
  | lit (n : Int) (s : Str)
  | cast (k : Kd) (e : Nd)
  | neg (e : Nd)
  | bin (o : Bo) (e f : Nd)
  | sh (left : Bool) (e : Nd) (k : Int)
  | ite (c e f : Nd)
  | cmp (less : Bool) (e f : Nd)
  | nt (c : Nd)
  | lg (and_ : Bool) (c d : Nd)
def shS (b : Bool) : Str := if b then "shl" else "shr"
def cmpS (b : Bool) : Str := if b then "less" else "most"
def lgS (b : Bool) : Str := if b then "and" else "or"
def Nd.word : Nd → Str
  | .var _ => "var" | .lit _ _ => "lit" | .cast _ _ => "cast" | .neg _ => "neg" | .bin o _ _ => o.s | .sh b _ _ => shS b | .ite _ _ _ => "if" | .cmp b _ _ => cmpS b | .nt _ => "not" | .lg b _ _ => lgS b
def Nd.parts : Nd → List Nd
  | .var _ => [] | .lit _ _ => [] | .cast _ e => [e] | .neg e => [e] | .bin _ e f => [e, f] | .sh _ e _ => [e] | .ite c e f => [c, e, f] | .cmp _ e f => [e, f] | .nt c => [c] | .lg _ c d => [c, d]
def Nd.size : Nd → Nat
  | .var _ => 1 | .lit _ _ => 1 | .cast _ e => 1 + e.size | .neg e => 1 + e.size | .bin _ e f => 1 + e.size + f.size | .sh _ e _ => 1 + e.size | .ite c e f => 1 + c.size + e.size + f.size | .cmp _ e f => 1 + e.size + f.size | .nt c => 1 + c.size | .lg _ c d => 1 + c.size + d.size
def Nd.leaves : Nd → Nat
  | .var _ => 1 | .lit _ _ => 1 | .cast _ e => e.leaves | .neg e => e.leaves | .bin _ e f => e.leaves + f.leaves | .sh _ e _ => e.leaves | .ite c e f => c.leaves + e.leaves + f.leaves | .cmp _ e f => e.leaves + f.leaves | .nt c => c.leaves | .lg _ c d => c.leaves + d.leaves
/-- an expression, not a condition -/
def Nd.isE : Nd → Bool
  | .cmp _ _ _ => false | .nt _ => false | .lg _ _ _ => false | _ => true
/-- it stands at p, tuples of tuples -/
def TreeAt (H : Hp) : Addr → Nd → Prop
  | p, .var x => H p = some (.tup [.str "var", .str x])
  | p, .lit n s => H p = some (.tup [.str "lit", .int n, .str s])
  | p, .cast k e => ∃ q, H p = some (.tup [.str "cast", k.v, .ref q]) ∧ TreeAt H q e
  | p, .neg e => ∃ q, H p = some (.tup [.str "neg", .ref q]) ∧ TreeAt H q e
  | p, .bin o e f => ∃ q r, H p = some (.tup [.str o.s, .ref q, .ref r]) ∧ TreeAt H q e ∧ TreeAt H r f
  | p, .sh b e k => ∃ q, H p = some (.tup [.str (shS b), .ref q, .int k]) ∧ TreeAt H q e
  | p, .ite c e f => ∃ o q r, H p = some (.tup [.str "if", .ref o, .ref q, .ref r]) ∧ TreeAt H o c ∧ TreeAt H q e ∧ TreeAt H r f
  | p, .cmp b e f => ∃ q r, H p = some (.tup [.str (cmpS b), .ref q, .ref r]) ∧ TreeAt H q e ∧ TreeAt H r f
  | p, .nt c => ∃ q, H p = some (.tup [.str "not", .ref q]) ∧ TreeAt H q c
  | p, .lg b c d => ∃ q r, H p = some (.tup [.str (lgS b), .ref q, .ref r]) ∧ TreeAt H q c ∧ TreeAt H r d
theorem TreeAt.tk {H H' : Hp} (e : TupK H H') : ∀ {nd : Nd} {p : Addr}, TreeAt H p nd → TreeAt H' p nd
  | .var _, _, h => e _ _ h
  | .lit _ _, _, h => e _ _ h
  | .cast _ _, _, ⟨q, h, t⟩ => ⟨q, e _ _ h, t.tk e⟩
  | .neg _, _, ⟨q, h, t⟩ => ⟨q, e _ _ h, t.tk e⟩
  | .bin _ _ _, _, ⟨q, r, h, t, u⟩ => ⟨q, r, e _ _ h, t.tk e, u.tk e⟩
  | .sh _ _ _, _, ⟨q, h, t⟩ => ⟨q, e _ _ h, t.tk e⟩
  | .ite _ _ _, _, ⟨o, q, r, h, s, t, u⟩ => ⟨o, q, r, e _ _ h, s.tk e, t.tk e, u.tk e⟩
  | .cmp _ _ _, _, ⟨q, r, h, t, u⟩ => ⟨q, r, e _ _ h, t.tk e, u.tk e⟩
  | .nt _, _, ⟨q, h, t⟩ => ⟨q, e _ _ h, t.tk e⟩
  | .lg _ _ _, _, ⟨q, r, h, t, u⟩ => ⟨q, r, e _ _ h, t.tk e, u.tk e⟩
theorem TreeAt.ex {H H' : Hp} {nd : Nd} {p : Addr} (h : TreeAt H p nd) (e : Ex H H') : TreeAt H' p nd := h.tk (TupK.of e)
theorem TupK.bu {H H' : Hp} {r : Addr} {n : Nat} (e : Bu r H H') (g : Rng H r n) : TupK H H' := fun b xs h => e _ _ (g.ne_tup h) h
/-- its datum -/
def Nd.dat : Nd → PyData
  | .var x => .tuple [.str "var", .str x]
  | .lit n s => .tuple [.str "lit", .int n, .str s]
  | .cast k e => .tuple [.str "cast", .str k.s, e.dat]
  | .neg e => .tuple [.str "neg", e.dat]
  | .bin o e f => .tuple [.str o.s, e.dat, f.dat]
  | .sh b e k => .tuple [.str (shS b), e.dat, .int k]
  | .ite c e f => .tuple [.str "if", c.dat, e.dat, f.dat]
  | .cmp b e f => .tuple [.str (cmpS b), e.dat, f.dat]
  | .nt c => .tuple [.str "not", c.dat]
  | .lg b c d => .tuple [.str (lgS b), c.dat, d.dat]
theorem TreeAt.dp {K : PySem.W.Frag} {H : Hp} : ∀ {nd : Nd} {p : Addr}, TreeAt H p nd → Dp K H (.ref p) nd.dat
  | .var _, _, h => .tup (st_of h) (.cons (.str _) (.cons (.str _) .nil))
  | .lit _ _, _, h => .tup (st_of h) (.cons (.str _) (.cons (.int _) (.cons (.str _) .nil)))
  | .cast _ _, _, ⟨q, h, t⟩ => .tup (st_of h) (.cons (.str _) (.cons (.str _) (.cons t.dp .nil)))
  | .neg _, _, ⟨q, h, t⟩ => .tup (st_of h) (.cons (.str _) (.cons t.dp .nil))
  | .bin _ _ _, _, ⟨q, r, h, t, u⟩ => .tup (st_of h) (.cons (.str _) (.cons t.dp (.cons u.dp .nil)))
  | .sh _ _ _, _, ⟨q, h, t⟩ => .tup (st_of h) (.cons (.str _) (.cons t.dp (.cons (.int _) .nil)))
  | .ite _ _ _, _, ⟨o, q, r, h, s, t, u⟩ => .tup (st_of h) (.cons (.str _) (.cons s.dp (.cons t.dp (.cons u.dp .nil))))
  | .cmp _ _ _, _, ⟨q, r, h, t, u⟩ => .tup (st_of h) (.cons (.str _) (.cons t.dp (.cons u.dp .nil)))
  | .nt _, _, ⟨q, h, t⟩ => .tup (st_of h) (.cons (.str _) (.cons t.dp .nil))
  | .lg _ _ _, _, ⟨q, r, h, t, u⟩ => .tup (st_of h) (.cons (.str _) (.cons t.dp (.cons u.dp .nil)))
/-- the parts stand at these places -/
def PartsAt (H : Hp) : List Addr → List Nd → Prop
  | [], [] => True
  | q :: qs, e :: es => TreeAt H q e ∧ PartsAt H qs es
  | _, _ => False
theorem PartsAt.tk {H H' : Hp} (e : TupK H H') : ∀ {qs : List Addr} {es : List Nd}, PartsAt H qs es → PartsAt H' qs es
  | [], [], _ => trivial
  | _ :: _, _ :: _, h => ⟨h.1.tk e, PartsAt.tk e h.2⟩
  | [], _ :: _, h => h.elim
  | _ :: _, [], h => h.elim
end Cf
namespace Cf
open PySem PySem.Spec PyProof.Rows L2 Evl
/-- the node's tuple: its word, the items behind it, and where its parts stand -/
theorem TreeAt.head {H : Hp} : ∀ {nd : Nd} {p : Addr}, TreeAt H p nd → ∃ rest, H p = some (.tup (.str nd.word :: rest))
  | .var _, _, h => ⟨_, h⟩
  | .lit _ _, _, h => ⟨_, h⟩
  | .cast _ _, _, ⟨_, h, _⟩ => ⟨_, h⟩
  | .neg _, _, ⟨_, h, _⟩ => ⟨_, h⟩
  | .bin _ _ _, _, ⟨_, _, h, _⟩ => ⟨_, h⟩
  | .sh _ _ _, _, ⟨_, h, _⟩ => ⟨_, h⟩
  | .ite _ _ _, _, ⟨_, _, _, h, _⟩ => ⟨_, h⟩
  | .cmp _ _ _, _, ⟨_, _, h, _⟩ => ⟨_, h⟩
  | .nt _, _, ⟨_, h, _⟩ => ⟨_, h⟩
  | .lg _ _ _, _, ⟨_, _, h, _⟩ => ⟨_, h⟩
/-- the law's way to the parts: none; the item at 1 or 2; all behind the word -/
theorem TreeAt.way {H : Hp} : ∀ {nd : Nd} {p : Addr}, TreeAt H p nd →
    (inV (.str nd.word) [.str "var", .str "lit"] = true ∧ nd.parts = []) ∨
    (inV (.str nd.word) [.str "var", .str "lit"] = false ∧ inV (.str nd.word) [.str "cast", .str "shl", .str "shr"] = true ∧ ∃ xs q e, H p = some (.tup xs) ∧ xs[(if nd.word = "cast" then 1 else 0) + 1]? = some (.ref q) ∧ nd.parts = [e] ∧ TreeAt H q e) ∨
    (inV (.str nd.word) [.str "var", .str "lit"] = false ∧ inV (.str nd.word) [.str "cast", .str "shl", .str "shr"] = false ∧ ∃ qs, H p = some (.tup (.str nd.word :: qs.map V.ref)) ∧ (cutV (.str nd.word :: qs.map V.ref) (some 1) none = qs.map V.ref ∧ HT.sIx (V.str nd.word :: qs.map V.ref).length 0 (some 1) ≠ 0) ∧ PartsAt H qs nd.parts)
  | .var _, _, _ => .inl ⟨by rfl, rfl⟩
  | .lit _ _, _, _ => .inl ⟨by rfl, rfl⟩
  | .cast _ e, _, ⟨q, h, t⟩ => .inr (.inl ⟨by rfl, by rfl, _, q, e, h, rfl, rfl, t⟩)
  | .neg _, _, ⟨q, h, t⟩ => .inr (.inr ⟨by rfl, by rfl, [q], h, ⟨rfl, by simp [HT.sIx]⟩, t, trivial⟩)
  | .bin o _ _, _, ⟨q, r, h, t, u⟩ => .inr (.inr ⟨by cases o <;> rfl, by cases o <;> rfl, [q, r], h, ⟨rfl, by simp [HT.sIx]⟩, t, u, trivial⟩)
  | .sh b e _, _, ⟨q, h, t⟩ => .inr (.inl ⟨by cases b <;> rfl, by cases b <;> rfl, _, q, e, h, by cases b <;> rfl, rfl, t⟩)
  | .ite _ _ _, _, ⟨o, q, r, h, s, t, u⟩ => .inr (.inr ⟨by rfl, by rfl, [o, q, r], h, ⟨rfl, by simp [HT.sIx]⟩, s, t, u, trivial⟩)
  | .cmp b _ _, _, ⟨q, r, h, t, u⟩ => .inr (.inr ⟨by cases b <;> rfl, by cases b <;> rfl, [q, r], h, ⟨rfl, by simp [HT.sIx]⟩, t, u, trivial⟩)
  | .nt _, _, ⟨q, h, t⟩ => .inr (.inr ⟨by rfl, by rfl, [q], h, ⟨rfl, by simp [HT.sIx]⟩, t, trivial⟩)
  | .lg b _ _, _, ⟨q, r, h, t, u⟩ => .inr (.inr ⟨by cases b <;> rfl, by cases b <;> rfl, [q, r], h, ⟨rfl, by simp [HT.sIx]⟩, t, u, trivial⟩)
def spParts : Sp := fun vs H Q _ => ∃ p nd, vs = [.ref p] ∧ TreeAt H p nd ∧ ∀ l qs H', H l = none → Ex H H' → H' l = some (.lst (qs.map V.ref)) → PartsAt H' qs nd.parts → Q (.ref l) H'
end Cf
namespace Cf
open PySem PySem.Spec PyProof.Rows L2 Evl
/-! ## a def that calls itself: a promise for each depth -/
section
variable {P : Program} {w : World} {K : PySem.W.Frag} {mg : Str → Option Value} {base : Heap} {CX : CXT} {f : Addr} {fd : FuncData} {ps : List Str}
theorem FnG.never {k : Nat} {sp : Sp} (h : ∀ vs H Q E, ¬ sp vs H Q E) : FnG P w K mg base CX k f fd ps sp :=
  ⟨fun vs H Q E q => (h _ _ _ _ q).elim, fun A outer s H args us vs Q E _ _ _ _ _ q => (h _ _ _ _ q).elim⟩
theorem rec_ok {sp : Nat → Sp} {c : Nat} (h0 : ∀ vs H Q E, ¬ sp 0 vs H Q E) (hs : ∀ d, FnG P w K mg base CX (c + d) f fd ps (sp d) → FnG P w K mg base CX (c + d + 1) f fd ps (sp (d + 1))) : ∀ d, FnG P w K mg base CX (c + d) f fd ps (sp d)
  | 0 => FnG.never h0
  | d + 1 => hs d (rec_ok h0 hs d)
end
end Cf
namespace Cf
open PySem PySem.Spec PyProof.Rows L2 Evl
/-! ## variables -/
structure Row where
  name : Str
  kind : Kd
  low : Int
  high : Int
def Row.vs (w : Row) : List V := [.str w.name, w.kind.v, .int w.low, .int w.high]
def Row.Fit (w : Row) : Prop := w.low ≤ w.high ∧ w.low.natAbs < 2 ^ 136 ∧ w.high.natAbs < 2 ^ 136
def VarsAt (H : Hp) (l : Addr) (rows : List Row) : Prop := ∃ ps : List Addr, H l = some (.lst (ps.map V.ref)) ∧ ps.length = rows.length ∧ ∀ (j : Nat) (w : Row), rows[j]? = some w → ∃ p, ps[j]? = some p ∧ H p = some (.tup w.vs)
theorem VarsAt.ex {H H' : Hp} {l : Addr} {rows : List Row} (h : VarsAt H l rows) (e : Ex H H') : VarsAt H' l rows := by
  obtain ⟨ps, a, b, c⟩ := h
  refine ⟨ps, e _ _ a, b, fun j w q => ?_⟩
  obtain ⟨p, p1, p2⟩ := c j w q
  exact ⟨p, p1, e _ _ p2⟩
theorem VarsAt.bu {H H' : Hp} {l r : Addr} {n : Nat} {rows : List Row} (h : VarsAt H l rows) (nr : l ≠ r) (g : Rng H r n) (e : Bu r H H') : VarsAt H' l rows := by
  obtain ⟨ps, a, b, c⟩ := h
  refine ⟨ps, e _ _ nr a, b, fun j w q => ?_⟩
  obtain ⟨p, p1, p2⟩ := c j w q
  exact ⟨p, p1, e _ _ (g.ne_tup p2) p2⟩
theorem VarsAt.add {H : Hp} {l p : Addr} {rows : List Row} {w : Row} {ps : List Addr} (h : VarsAt H l rows) (hl : H l = some (.lst (ps.map V.ref))) (hp : H p = some (.tup w.vs)) : VarsAt (upd H l (.lst (ps.map V.ref ++ [.ref p]))) l (rows ++ [w]) := by
  obtain ⟨qs, a, b, c⟩ := h
  have e : qs = ps := by
    rw [a] at hl
    have h1 := HO.lst.inj (Option.some.inj hl)
    have inj : ∀ {xs ys : List Addr}, xs.map V.ref = ys.map V.ref → xs = ys := by
      intro xs
      induction xs with
      | nil => intro ys h; cases ys with
        | nil => rfl
        | cons y ys => exact nomatch h
      | cons x xs ih => intro ys h; cases ys with
        | nil => exact nomatch h
        | cons y ys =>
          have h1 := List.cons.inj h
          rw [V.ref.inj h1.1, ih h1.2]
    exact inj h1
  subst e
  have nt : ∀ {q : Addr} {xs : List V}, H q = some (.tup xs) → q ≠ l := fun h => ne_of h hl fun z => nomatch z
  refine ⟨qs ++ [p], by rw [upd_same, List.map_append]; rfl, by rw [List.length_append, List.length_append, b]; rfl, fun j w2 q => ?_⟩
  by_cases hj : j < rows.length
  · rw [List.getElem?_append_left hj] at q
    obtain ⟨p2, q1, q2⟩ := c j w2 q
    exact ⟨p2, by rw [List.getElem?_append_left (by omega)]; exact q1, by rw [upd_ne (nt q2)]; exact q2⟩
  · rw [List.getElem?_append_right (by omega)] at q
    have hj2 : j - rows.length = 0 := by
      have := (List.getElem?_eq_some_iff.mp q).1
      simp at this
      omega
    rw [hj2] at q
    have q : w = w2 := Option.some.inj q
    subst q
    exact ⟨p, by rw [List.getElem?_append_right (by omega), b, hj2]; rfl, by rw [upd_ne (nt hp)]; exact hp⟩
def names8 : List Str := ["x", "if", "u", "lit", "abcdefgh", "add", "ul", "less"]
def spGiven : Sp := fun vs H Q _ => ∃ r many top n, vs = [.ref r, .int (many : Nat), .int top] ∧ many ≤ 8 ∧ 0 ≤ top ∧ top < 2 ^ 120 ∧ n < 2 ^ 40 ∧ Rng H r n ∧
  ∀ l rows H', Bu r H H' → Rng H' r (n + 40) → H l = none → l ≠ r → VarsAt H' l rows → rows.map Row.name = names8.take many → (∀ w ∈ rows, w.Fit) → Q (.ref l) H'
end Cf

namespace Cf
open PySem PySem.Spec PyProof.Rows L2 Evl
/-! ## well formed expressions, their variables -/
def sufs : List Str := ["", "u", "l", "ul", "w", "uw"]
def Nd.wf : Nd → Prop
  | .var _ => True
  | .lit n s => 0 ≤ n ∧ n < 2 ^ 136 ∧ s ∈ sufs
  | .cast _ e => e.isE = true ∧ e.wf
  | .neg e => e.isE = true ∧ e.wf
  | .bin _ e f => e.isE = true ∧ f.isE = true ∧ e.wf ∧ f.wf
  | .sh _ e k => e.isE = true ∧ e.wf ∧ 0 ≤ k ∧ k < 1000
  | .ite c e f => c.isE = false ∧ e.isE = true ∧ f.isE = true ∧ c.wf ∧ e.wf ∧ f.wf
  | .cmp _ e f => e.isE = true ∧ f.isE = true ∧ e.wf ∧ f.wf
  | .nt c => c.isE = false ∧ c.wf
  | .lg _ c d => c.isE = false ∧ d.isE = false ∧ c.wf ∧ d.wf
def Nd.vars : Nd → List Str
  | .var x => [x] | .lit _ _ => [] | .cast _ e => e.vars | .neg e => e.vars | .bin _ e f => e.vars ++ f.vars | .sh _ e _ => e.vars | .ite c e f => c.vars ++ (e.vars ++ f.vars) | .cmp _ e f => e.vars ++ f.vars | .nt c => c.vars | .lg _ c d => c.vars ++ d.vars
/-! ## what a drawing keeps: all but three lists -/
def Bs (r a b : Addr) (H H' : Hp) : Prop := ∀ q o, q ≠ r → q ≠ a → q ≠ b → H q = some o → H' q = some o
theorem Bs.refl (r a b : Addr) (H : Hp) : Bs r a b H H := fun _ _ _ _ _ h => h
theorem Bs.trans {r a b : Addr} {H H1 H2 : Hp} (x : Bs r a b H H1) (y : Bs r a b H1 H2) : Bs r a b H H2 := fun q o n1 n2 n3 h => y q o n1 n2 n3 (x q o n1 n2 n3 h)
theorem Bs.of {r a b : Addr} {H H1 : Hp} (e : Ex H H1) : Bs r a b H H1 := fun q o _ _ _ h => e q o h
theorem Bs.bu {r a b : Addr} {H H1 : Hp} (e : Bu r H H1) : Bs r a b H H1 := fun q o n _ _ h => e q o n h
/-- the draws, the free names, the literals that are left -/
structure Pool (H : Hp) (r a b : Addr) (n : Nat) (xs : List Str) (m : Nat) : Prop where
  g : Rng H r n
  f : H a = some (.lst (xs.map V.str))
  l : H b = some (.lst (List.replicate m (.int 0)))
  ar : a ≠ r
  br : b ≠ r
  ab : a ≠ b
  ok : ∀ x ∈ xs, PyData.strOk x = true
theorem Pool.ex {H H' : Hp} {r a b : Addr} {n : Nat} {xs : List Str} {m : Nat} (p : Pool H r a b n xs m) (e : Ex H H') : Pool H' r a b n xs m := ⟨p.g.ex e, e _ _ p.f, e _ _ p.l, p.ar, p.br, p.ab, p.ok⟩
theorem Pool.bu {H H' : Hp} {r a b : Addr} {n k : Nat} {xs : List Str} {m : Nat} (p : Pool H r a b n xs m) (e : Bu r H H') (g : Rng H' r k) : Pool H' r a b k xs m := ⟨g, e _ _ p.ar p.f, e _ _ p.br p.l, p.ar, p.br, p.ab, p.ok⟩
theorem Pool.le {H : Hp} {r a b : Addr} {n k : Nat} {xs : List Str} {m : Nat} (p : Pool H r a b n xs m) (h : n ≤ k) : Pool H r a b k xs m := ⟨p.g.le h, p.f, p.l, p.ar, p.br, p.ab, p.ok⟩
theorem Pool.ne {H : Hp} {r a b p : Addr} {n : Nat} {xs : List Str} {m : Nat} (o : Pool H r a b n xs m) {ys : List V} (h : H p = some (.tup ys)) : p ≠ r ∧ p ≠ a ∧ p ≠ b :=
  ⟨o.g.ne_tup h, ne_of h o.f (fun z => nomatch z), ne_of h o.l (fun z => nomatch z)⟩
theorem Bs.tk {r a b : Addr} {n : Nat} {xs : List Str} {m : Nat} {H H' : Hp} (e : Bs r a b H H') (o : Pool H r a b n xs m) : TupK H H' := fun q ys h => by
  obtain ⟨n1, n2, n3⟩ := o.ne h
  exact e q _ n1 n2 n3 h
theorem erase_perm {α : Type} : ∀ (xs : List α) (k : Nat) (h : k < xs.length), (xs[k] :: xs.eraseIdx k).Perm xs
  | x :: xs, 0, _ => List.Perm.refl _
  | x :: xs, k + 1, h => by
    have hk : k < xs.length := Nat.lt_of_succ_lt_succ h
    show (xs[k] :: x :: xs.eraseIdx k).Perm (x :: xs)
    exact (List.Perm.swap _ _ _).trans ((erase_perm xs k (Nat.lt_of_succ_lt_succ h)).cons x)
theorem erase_map {α β : Type} (g : α → β) : ∀ (xs : List α) (k : Nat), (xs.map g).eraseIdx k = (xs.eraseIdx k).map g
  | [], _ => rfl
  | x :: xs, 0 => rfl
  | x :: xs, k + 1 => by
    show g x :: (xs.map g).eraseIdx k = g x :: (xs.eraseIdx k).map g
    rw [erase_map g xs k]
/-- what a drawn tree is, and what it takes -/
structure Took (nd : Nd) (span : Nat) (xs ys : List Str) (m m' : Nat) : Prop where
  wf : nd.wf
  vs : (nd.vars ++ ys).Perm xs
  lv : nd.leaves + ys.length + m' = xs.length + m
  sz : nd.size ≤ span
def spTree (isE : Bool) (lo c s : Nat) : Sp := fun vs H Q _ => ∃ r a b span top n xs m, vs = [.ref r, .ref a, .ref b, .int (span : Nat), .int top] ∧ lo ≤ span ∧ span ≤ s ∧ span ≤ 30 ∧ 0 ≤ top ∧ top < 2 ^ 120 ∧ n + 6 * span < 2 ^ 50 + c ∧ Pool H r a b n xs m ∧ xs.length ≤ 100 ∧ m ≤ 100 ∧ 3 * span ≤ 5 * (xs.length + m) + 2 ∧
  ∀ p nd ys m' H', Bs r a b H H' → Pool H' r a b (n + 6 * span - c) ys m' → TreeAt H' p nd → nd.isE = isE → Took nd span xs ys m m' → 5 * nd.leaves ≤ 3 * span + (if isE = true then 2 else 1) → Q (.ref p) H'
theorem tree_at {isE : Bool} {lo c s : Nat} {σ : L2.St} {H : Hp} {ta : TA} {E : XK} {Q : VK} {r a b : Addr} {span : Nat} {top : Int} {n : Nat} {xs : List Str} {m : Nat} (h : EvA ta σ H [.ref r, .ref a, .ref b, .int (span : Nat), .int top]) (h1 : lo ≤ span) (h2 : span ≤ s) (h3 : span ≤ 30) (t0 : 0 ≤ top) (t1 : top < 2 ^ 120) (hn : n + 6 * span < 2 ^ 50 + c) (o : Pool H r a b n xs m) (hx : xs.length ≤ 100) (hm : m ≤ 100) (h5 : 3 * span ≤ 5 * (xs.length + m) + 2)
    (k : ∀ p nd ys m' H', Bs r a b H H' → Pool H' r a b (n + 6 * span - c) ys m' → TreeAt H' p nd → nd.isE = isE → Took nd span xs ys m m' → 5 * nd.leaves ≤ 3 * span + (if isE = true then 2 else 1) → Q (.ref p) H') : tCall (spTree isE lo c s) [] E ta σ H Q :=
  h H (Ex.refl H) _ fun H1 e => ⟨r, a, b, span, top, n, xs, m, rfl, h1, h2, h3, t0, t1, hn, o.ex e, hx, hm, h5, fun p nd ys m' H' bs => k p nd ys m' H' ((Bs.of e).trans bs)⟩
theorem Took.len {nd : Nd} {span : Nat} {xs ys : List Str} {m m' : Nat} (t : Took nd span xs ys m m') : ys.length ≤ xs.length := by
  have := t.vs.length_eq
  rw [List.length_append] at this
  omega
theorem leaves_pos : ∀ nd : Nd, 1 ≤ nd.leaves
  | .var _ => Nat.le_refl _ | .lit _ _ => Nat.le_refl _ | .cast _ e => leaves_pos e | .neg e => leaves_pos e
  | .bin _ e f => Nat.le_trans (leaves_pos e) (Nat.le_add_right _ _) | .sh _ e _ => leaves_pos e
  | .ite c e f => Nat.le_trans (leaves_pos c) (Nat.le_trans (Nat.le_add_right _ _) (Nat.le_add_right _ _))
  | .cmp _ e f => Nat.le_trans (leaves_pos e) (Nat.le_add_right _ _) | .nt c => leaves_pos c | .lg _ c d => Nat.le_trans (leaves_pos c) (Nat.le_add_right _ _)
theorem vars_leaves : ∀ nd : Nd, nd.vars.length ≤ nd.leaves
  | .var _ => Nat.le_refl _ | .lit _ _ => Nat.zero_le _ | .cast _ e => vars_leaves e | .neg e => vars_leaves e
  | .bin _ e f => by have h1 := vars_leaves e; have h2 := vars_leaves f; simp only [Nd.vars, Nd.leaves, List.length_append]; omega
  | .sh _ e _ => vars_leaves e
  | .ite c e f => by have h0 := vars_leaves c; have h1 := vars_leaves e; have h2 := vars_leaves f; simp only [Nd.vars, Nd.leaves, List.length_append]; omega
  | .cmp _ e f => by have h1 := vars_leaves e; have h2 := vars_leaves f; simp only [Nd.vars, Nd.leaves, List.length_append]; omega
  | .nt c => vars_leaves c
  | .lg _ e f => by have h1 := vars_leaves e; have h2 := vars_leaves f; simp only [Nd.vars, Nd.leaves, List.length_append]; omega
/-- the literals that are left do not grow -/
theorem Took.ml {nd : Nd} {span : Nat} {xs ys : List Str} {m m' : Nat} (t : Took nd span xs ys m m') : m' ≤ m := by
  have h1 := t.vs.length_eq
  rw [List.length_append] at h1
  have h2 := vars_leaves nd
  have h3 := t.lv
  omega
theorem perm2 {u v xs ys zs : List Str} (h1 : (u ++ ys).Perm xs) (h2 : (v ++ zs).Perm ys) : ((u ++ v) ++ zs).Perm xs := by
  rw [List.append_assoc]
  exact (h2.append_left u).trans h1
theorem Pool.fr {H : Hp} {r a b p : Addr} {n : Nat} {xs : List Str} {m : Nat} (o : Pool H r a b n xs m) (h : H p = none) : p ≠ r ∧ p ≠ a ∧ p ≠ b := by
  obtain ⟨d, s2, c, q, _⟩ := o.g
  exact ⟨(fun z => by rw [z, q] at h; exact nomatch h), (fun z => by rw [z, o.f] at h; exact nomatch h), (fun z => by rw [z, o.l] at h; exact nomatch h)⟩
/-- one leaf: at most five draws -/
def spLeaf : Sp := fun vs H Q _ => ∃ r a b top n xs m, vs = [.ref r, .ref a, .ref b, .int top] ∧ 0 ≤ top ∧ top < 2 ^ 120 ∧ n < 2 ^ 50 ∧ Pool H r a b n xs m ∧ xs.length ≤ 100 ∧ m ≤ 100 ∧ 1 ≤ xs.length + m ∧
  ∀ p nd ys m' H', Bs r a b H H' → Pool H' r a b (n + 5) ys m' → TreeAt H' p nd → nd.isE = true → Took nd 1 xs ys m m' → nd.leaves = 1 → Q (.ref p) H'
theorem pop_raw {K : PySem.W.Frag} {σ : L2.St} {H : Hp} {i : Nat} {l : Addr} {xs : List V} {r : V → List V → Hp → VK → Prop} {tr : TA} {Q : VK} (hi : σ[i]? = some (some (.ref l))) (hl : H l = some (.lst xs)) (h : tr σ H fun ys H2 => r (.ref l) ys H2 Q) : tBM K "list" r (tVar i) tr σ H Q :=
  ⟨.ref l, hi, .inl ⟨rfl, xs, sq_of hl⟩, h⟩
theorem pop0_raw {K : PySem.W.Frag} {σ : L2.St} {H : Hp} {i : Nat} {l : Addr} {xs : List V} {r : V → List V → Hp → VK → Prop} {Q : VK} (hi : σ[i]? = some (some (.ref l))) (hl : H l = some (.lst xs)) (h : r (.ref l) [] H Q) : tBM0 K "list" r (tVar i) σ H Q :=
  ⟨.ref l, hi, .inl ⟨rfl, xs, sq_of hl⟩, h⟩
theorem seq_ix {k n : Nat} (h : k < n) : seqIndex? (k : Int) n = some k := (ixN_seq (ixN_nat h)).1
/-- a list of scalars against the empty one -/
theorem ev_neE {K : PySem.W.Frag} {σ : L2.St} {H : Hp} {ta tb : TE} {a : Addr} {ds : List PyData} (ha : Ev ta σ H (.ref a)) (hb : EvL tb σ H []) (hx : ∀ H1, Ex H H1 → Dp K H1 (.ref a) (.list ds)) (hs : SeqAt.shaped (.list ds) = true) : Ev (tOp (rNeD K) ta tb) σ H (.bl (!PyData.eqv (.list ds) (.list []))) :=
  ev_opL ha hb fun q H1 hq e => fun H2 e2 Q k => ⟨.list ds, .list [], hx H2 (e.trans e2), .lst (sq_of (e2 _ _ hq)) .nil, hs, rfl, k H2 (Ex.refl H2)⟩
theorem ev_eqE {K : PySem.W.Frag} {σ : L2.St} {H : Hp} {ta tb : TE} {a : Addr} {ds : List PyData} (ha : Ev ta σ H (.ref a)) (hb : EvL tb σ H []) (hx : ∀ H1, Ex H H1 → Dp K H1 (.ref a) (.list ds)) (hs : SeqAt.shaped (.list ds) = true) : Ev (tOp (rEqD K) ta tb) σ H (.bl (PyData.eqv (.list ds) (.list []))) :=
  ev_opL ha hb fun q H1 hq e => fun H2 e2 Q k => ⟨.list ds, .list [], hx H2 (e.trans e2), .lst (sq_of (e2 _ _ hq)) .nil, hs, rfl, k H2 (Ex.refl H2)⟩
theorem dp_strs {K : PySem.W.Frag} {H : Hp} : ∀ xs : List Str, DpAll K H (xs.map V.str) (xs.map PyData.str)
  | [] => .nil
  | x :: xs => .cons (.str _) (dp_strs xs)
theorem strs_lay : ∀ xs : List Str, (∀ x ∈ xs, PyData.strOk x = true) → PyData.canLayAll0 (xs.map PyData.str) = true
  | [], _ => by simp [PyData.canLayAll0]
  | k :: ks, h => by
    have ih := strs_lay ks fun x hx => h x (List.mem_cons_of_mem _ hx)
    have hk := h k (List.mem_cons_self ..)
    simp [PyData.canLayAll0, PyData.canLay0, ih, hk]
theorem strs_depth : ∀ xs : List Str, PyData.depthAll (xs.map PyData.str) ≤ 2
  | [] => by simp [PyData.depthAll]
  | k :: ks => by
    have ih := strs_depth ks
    simp only [List.map_cons, PyData.depthAll, PyData.depth]
    omega
theorem strs_shaped {xs : List Str} (h : ∀ x ∈ xs, PyData.strOk x = true) : SeqAt.shaped (.list (xs.map PyData.str)) = true := by
  have h1 := strs_depth xs
  show (PyData.canLay0 (.list (xs.map PyData.str)) && decide (PyData.depth (.list (xs.map PyData.str)) ≤ 64)) = true
  rw [Bool.and_eq_true]
  refine ⟨by simp only [PyData.canLay0]; exact strs_lay xs h, decide_eq_true ?_⟩
  simp only [PyData.depth]
  omega
theorem zeros_lay : ∀ m : Nat, PyData.canLayAll0 (List.replicate m (.int 0)) = true
  | 0 => by simp [PyData.canLayAll0]
  | m + 1 => by
    have ih := zeros_lay m
    simp [PyData.canLayAll0, PyData.canLay0, ih, List.replicate_succ]
theorem zeros_depth : ∀ m : Nat, PyData.depthAll (List.replicate m (.int 0)) ≤ 2
  | 0 => by simp [PyData.depthAll]
  | m + 1 => by
    have ih := zeros_depth m
    simp only [List.replicate_succ, PyData.depthAll, PyData.depth]
    omega
theorem zeros_shaped (m : Nat) : SeqAt.shaped (.list (List.replicate m (.int 0))) = true := by
  have h1 := zeros_depth m
  show (PyData.canLay0 (.list (List.replicate m (.int 0))) && decide (PyData.depth (.list (List.replicate m (.int 0))) ≤ 64)) = true
  rw [Bool.and_eq_true]
  refine ⟨by simp only [PyData.canLay0]; exact zeros_lay m, decide_eq_true ?_⟩
  simp only [PyData.depth]
  omega
theorem strs_nil (xs : List Str) : PyData.eqv (.list (xs.map PyData.str)) (.list []) = decide (xs = []) := by cases xs <;> simp [PyData.eqv, PyData.eqvAll]
theorem zeros_nil (m : Nat) : PyData.eqv (.list (List.replicate m (.int 0))) (.list []) = decide (m = 0) := by cases m <;> simp [PyData.eqv, PyData.eqvAll, List.replicate_succ]
theorem dp_zeros {K : PySem.W.Frag} {H : Hp} : ∀ m : Nat, DpAll K H (List.replicate m (.int 0)) (List.replicate m (.int 0))
  | 0 => .nil
  | m + 1 => .cons (.int _) (dp_zeros m)
theorem cond_go {t : TT} {σ : L2.St} {H : Hp} {K : Bool → Hp → Prop} (P : Bool → Hp → Prop) (h1 : ∀ K : Bool → Hp → Prop, (∀ b H1, P b H1 → K b H1) → t σ H K) (h2 : ∀ b H1, P b H1 → K b H1) : t σ H K := h1 K h2

theorem and_raw {t u : TT} {σ : L2.St} {H : Hp} {Q : Bool → Hp → Prop} (h : t σ H fun c H1 => if c = true then u σ H1 Q else Q false H1) : tAnd t u σ H Q := h
theorem or_raw {t u : TT} {σ : L2.St} {H : Hp} {Q : Bool → Hp → Prop} (h : t σ H fun c H1 => if c = true then Q true H1 else u σ H1 Q) : tOr t u σ H Q := h
theorem rep_last (m : Nat) : (List.replicate (m + 1) (V.int 0))[(List.replicate (m + 1) (V.int 0)).length - 1]? = some (.int 0) := by
  rw [List.length_replicate, List.getElem?_replicate]
  exact if_pos (by omega)
theorem rep_drop (m : Nat) : (List.replicate (m + 1) (V.int 0)).dropLast = List.replicate m (.int 0) := by
  rw [List.dropLast_replicate]
  rfl
def sufsL : List V := [.str "", .str "", .str "u", .str "l", .str "ul", .str "w", .str "uw"]
theorem suf_at {j : Nat} (h : j < 7) : ∃ s, sufsL[j]? = some (.str s) ∧ s ∈ sufs := by
  match j, h with
  | 0, _ => exact ⟨_, rfl, by decide⟩
  | 1, _ => exact ⟨_, rfl, by decide⟩
  | 2, _ => exact ⟨_, rfl, by decide⟩
  | 3, _ => exact ⟨_, rfl, by decide⟩
  | 4, _ => exact ⟨_, rfl, by decide⟩
  | 5, _ => exact ⟨_, rfl, by decide⟩
  | 6, _ => exact ⟨_, rfl, by decide⟩
theorem given_all {α : Type} (xs : List α) (g : α → V) (d : α) : given xs.length (fun _ => true) (fun i => g (xs.getD i d)) = xs.map g := by
  unfold given
  rw [List.filter_eq_self.mpr (fun _ _ => rfl)]
  apply List.ext_getElem?
  intro i
  rw [List.getElem?_map, List.getElem?_map]
  by_cases h : i < xs.length
  · rw [List.getElem?_range h, List.getElem?_eq_getElem h]
    show some (g (xs.getD i d)) = some (g xs[i])
    rw [List.getD_eq_getElem?_getD, List.getElem?_eq_getElem h]
    rfl
  · rw [List.getElem?_eq_none (by simpa using h), List.getElem?_eq_none (by simpa using h)]
    rfl
def spWhole : Sp := fun vs H Q _ => ∃ r l many span top n rows, vs = [.ref r, .ref l, .int (many : Nat), .int (span : Nat), .int top] ∧ 1 ≤ many ∧ many ≤ 10 ∧ 1 ≤ span ∧ span ≤ 24 ∧ 0 ≤ top ∧ top < 2 ^ 120 ∧ n < 2 ^ 40 ∧ Rng H r n ∧ VarsAt H l rows ∧ rows.length ≤ 8 ∧ (∀ w ∈ rows, PyData.strOk w.name = true) ∧
  ∀ p nd H', Bu r H H' → Rng H' r (n + 200) → TreeAt H' p nd → nd.wf → nd.size ≤ 24 → (∃ ys, (nd.vars ++ ys).Perm (rows.map Row.name)) → Q (.ref p) H'
theorem Bs.back {r a b : Addr} {H H1 H2 : Hp} (e : Ex H H1) (ha : H a = none) (hb : H b = none) (bs : Bs r a b H1 H2) : Bu r H H2 := fun q o n h => bs q o n (fun z => by rw [z, ha] at h; exact nomatch h) (fun z => by rw [z, hb] at h; exact nomatch h) (e q o h)
end Cf

namespace Cf
open PySem PySem.Spec PyProof.Rows L2 Evl
/-! ## literals -/
def stOf (s : Str) : Nat := if s = "w" ∨ s = "uw" then 4 else if s = "l" ∨ s = "ul" then 3 else 2
def sgOf (s : Str) : Bool := !decide (s = "u" ∨ s = "ul" ∨ s = "uw")
def Md.hol (m : Md) (k : Kd) (i : Int) : Bool := decide (m.low k ≤ i ∧ i ≤ m.high k)
/-- the first of the last j ranks -/
def Md.litR (m : Md) (n : Int) (sg : Bool) : Nat → Option Kd
  | 0 => none
  | j + 1 => if m.hol (lawOf (4 - j) sg) n = true then some (lawOf (4 - j) sg) else m.litR n sg j
def Md.lit (m : Md) (n : Int) (s : Str) : Option Kd := m.litR n (sgOf s) (5 - stOf s)
def optV : Option Kd → V
  | none => .non
  | some k => k.v
def preLit (K : PySem.W.Frag) : List V → Hp → V → Prop := fun vs H v => ∃ p m n s, vs = [.ref p, .int n, .str s] ∧ AtM K H p m ∧ m.Ok ∧ s ∈ sufs ∧ v = optV (m.lit n s)
theorem spLit {K : PySem.W.Frag} {H : Hp} {p : Addr} {m : Md} {n : Int} {s : Str} (a : AtM K H p m) (o : m.Ok) (h : s ∈ sufs) : SpV (PV (preLit K)) [.ref p, .int n, .str s] H (optV (m.lit n s)) := PV.sp fun H1 e => ⟨p, m, n, s, rfl, a.ex e, o, h, rfl⟩
def preSt : List V → Hp → V → Prop := fun vs H v => ∃ s, vs = [.str s] ∧ s ∈ sufs ∧ v = .int (stOf s : Nat)
theorem spSt {H : Hp} {s : Str} (h : s ∈ sufs) : SpV (PV preSt) [.str s] H (.int (stOf s : Nat)) := PV.sp fun H1 e => ⟨s, rfl, h, rfl⟩
def inStr (a b : Str) : Bool := !(Builtin.Str.occurrences b a 0 b.length 1).isEmpty
theorem suf_facts {s : Str} (h : s ∈ sufs) : inStr "u" s = !sgOf s ∧ 2 + (if inStr "l" s = true then 1 else 0) + 2 * (if inStr "w" s = true then 1 else 0) = stOf s ∧ (inStr "w" s = true → stOf s = 4) ∧ (inStr "w" s = false → inStr "l" s = true → stOf s = 3) ∧ (inStr "w" s = false → inStr "l" s = false → stOf s = 2) ∧ 2 ≤ stOf s ∧ stOf s ≤ 4 := by
  simp only [sufs, List.mem_cons, List.not_mem_nil, or_false] at h
  rcases h with rfl | rfl | rfl | rfl | rfl | rfl <;> decide +kernel
theorem rv_inS {a b : Str} {H : Hp} : RV (fun x y H Q => ∃ i j, x = .str i ∧ y = .str j ∧ Q (.bl (!(Builtin.Str.occurrences j i 0 j.length 1).isEmpty)) H) (.str a) (.str b) H (.bl (inStr a b)) := fun H1 _ _ q => ⟨_, _, rfl, rfl, q H1 (Ex.refl H1)⟩
theorem rv_niS {a b : Str} {H : Hp} : RV (fun x y H Q => ∃ i j, x = .str i ∧ y = .str j ∧ Q (.bl (!(!(Builtin.Str.occurrences j i 0 j.length 1).isEmpty))) H) (.str a) (.str b) H (.bl (!inStr a b)) := fun H1 _ _ q => ⟨_, _, rfl, rfl, q H1 (Ex.refl H1)⟩
theorem ev_int1 {σ : L2.St} {H : Hp} {ta : TE} {b : Bool} (h : Ev ta σ H (.bl b)) : Ev (tCB (fun xs H Q => (∃ i, xs = [.int i] ∧ Q (.int i) H) ∨ ∃ k, xs = [.bl k] ∧ Q (.int (if k then 1 else 0)) H) (tCons ta tNil)) σ H (.int (if b = true then 1 else 0)) := ev_cb (ea_cons h ea_nil) fun H1 e Q q => .inr ⟨b, rfl, q H1 (Ex.refl H1)⟩
/-! ## admission -/
def Md.rowOk (m : Md) (w : Row) : Bool := m.hol w.kind w.low && m.hol w.kind w.high
def admV (m : Md) (rows : List Row) : Option Str := (rows.find? fun w => !m.rowOk w).map Row.name
def Nd.bad (m : Md) : Nd → Option (List Nat)
  | .var _ => none
  | .lit n s => if m.lit n s = none then some [] else none
  | .cast _ e => (e.bad m).map (0 :: ·)
  | .neg e => (e.bad m).map (0 :: ·)
  | .bin _ e f => ((e.bad m).map (0 :: ·)).or ((f.bad m).map (1 :: ·))
  | .sh _ e _ => (e.bad m).map (0 :: ·)
  | .ite c e f => ((c.bad m).map (0 :: ·)).or (((e.bad m).map (1 :: ·)).or ((f.bad m).map (2 :: ·)))
  | .cmp _ e f => ((e.bad m).map (0 :: ·)).or ((f.bad m).map (1 :: ·))
  | .nt c => (c.bad m).map (0 :: ·)
  | .lg _ c d => ((c.bad m).map (0 :: ·)).or ((d.bad m).map (1 :: ·))
def badL (m : Md) : Nat → List Nd → Option (List Nat)
  | _, [] => none
  | i, e :: es => ((e.bad m).map (i :: ·)).or (badL m (i + 1) es)
theorem bad_parts {m : Md} : ∀ {nd : Nd}, (∀ n s, nd = .lit n s → m.lit n s ≠ none) → nd.bad m = badL m 0 nd.parts
  | .var _, _ => rfl
  | .lit n s, h => if_neg (h n s rfl)
  | .cast _ _, _ => (Option.or_none ..).symm | .neg _, _ => (Option.or_none ..).symm | .sh _ _ _, _ => (Option.or_none ..).symm | .nt _, _ => (Option.or_none ..).symm
  | .bin _ _ _, _ => by simp only [Nd.bad, Nd.parts, badL, Option.or_none]
  | .ite _ _ _, _ => by simp only [Nd.bad, Nd.parts, badL, Option.or_none]
  | .cmp _ _ _, _ => by simp only [Nd.bad, Nd.parts, badL, Option.or_none]
  | .lg _ _ _, _ => by simp only [Nd.bad, Nd.parts, badL, Option.or_none]
theorem badL_at {m : Md} : ∀ {es : List Nd} {k i : Nat} {e : Nd} {q : List Nat}, es[i]? = some e → (∀ (j : Nat) (x : Nd), j < i → es[j]? = some x → x.bad m = none) → e.bad m = some q → badL m k es = some ((k + i) :: q)
  | x :: es, k, 0, e, q, h, _, hb => by
    cases (Option.some.inj h)
    simp only [badL, hb, Option.map_some, Option.some_or, Nat.add_zero]
  | x :: es, k, i + 1, e, q, h, hn, hb => by
    have h0 := hn 0 x (by omega) rfl
    have ih := badL_at (es := es) (k := k + 1) (i := i) (e := e) (q := q) h (fun j y hj hy => hn (j + 1) y (by omega) hy) hb
    simp only [badL, h0, Option.map_none, Option.none_or, ih]
    congr 2
    omega
theorem badL_no {m : Md} : ∀ {es : List Nd} {k : Nat}, (∀ (j : Nat) (x : Nd), es[j]? = some x → x.bad m = none) → badL m k es = none
  | [], _, _ => rfl
  | x :: es, k, h => by
    have h0 := h 0 x rfl
    have ih := badL_no (es := es) (k := k + 1) fun j y hy => h (j + 1) y hy
    simp only [badL, h0, Option.map_none, Option.none_or, ih]
theorem find_at {α : Type} {p : α → Bool} : ∀ {xs : List α} {i : Nat} {x : α}, xs[i]? = some x → p x = true → (∀ (j : Nat) (y : α), j < i → xs[j]? = some y → p y = false) → xs.find? p = some x
  | a :: xs, 0, x, h, hp, _ => by
    cases (Option.some.inj h)
    rw [List.find?_cons, hp]
  | a :: xs, i + 1, x, h, hp, hn => by
    rw [List.find?_cons, hn 0 a (by omega) rfl]
    exact find_at (i := i) h hp fun j y hj hy => hn (j + 1) y (by omega) hy
theorem find_no {α : Type} {p : α → Bool} {xs : List α} (h : ∀ (j : Nat) (y : α), xs[j]? = some y → p y = false) : xs.find? p = none := by
  rw [List.find?_eq_none]
  intro x hx
  obtain ⟨j, hj⟩ := List.getElem?_of_mem hx
  rw [h j x hj]
  decide
def pathV (q : List Nat) : List V := q.map fun i => V.int (i : Nat)
def pathD (q : List Nat) : PyData := .tuple (q.map fun i => PyData.int (i : Nat))
def admD (m : Md) (rows : List Row) (nd : Nd) (pt : List Nat) : PyData :=
  match admV m rows with
  | some x => .tuple [.str "variable", .str x]
  | none => match nd.bad m with
    | some q => .tuple [.str "literal", pathD (pt ++ q)]
    | none => .none
theorem path_all {K : PySem.W.Frag} {H : Hp} : ∀ q : List Nat, DpAll K H (pathV q) (q.map fun i => PyData.int (i : Nat))
  | [] => .nil
  | i :: q => .cons (.int _) (path_all q)
theorem path_dp {K : PySem.W.Frag} {H : Hp} {t : Addr} {q : List Nat} (h : SqT K H t (pathV q)) : Dp K H (.ref t) (pathD q) := .tup h (path_all q)
def spAdm (K : PySem.W.Frag) (d : Nat) : Sp := fun vs H Q _ => ∃ sch l p t m rows nd pt, vs = [.ref sch, .ref l, .ref p, .ref t] ∧ AtM K H sch m ∧ m.Ok ∧ VarsAt H l rows ∧ TreeAt H p nd ∧ nd.wf ∧ nd.size ≤ d ∧ SqT K H t (pathV pt) ∧ pt.length + nd.size ≤ 100 ∧
  ∀ v H', Ex H H' → Dp K H' v (admD m rows nd pt) → Q v H'
theorem PartsAt.at {H : Hp} : ∀ {qs : List Addr} {es : List Nd}, PartsAt H qs es → qs.length = es.length ∧ ∀ (i : Nat) (q : Addr), qs[i]? = some q → ∃ e, es[i]? = some e ∧ TreeAt H q e
  | [], [], _ => ⟨rfl, fun i q h => nomatch h⟩
  | q :: qs, e :: es, h => by
    obtain ⟨h1, h2⟩ := h.2.at
    refine ⟨by rw [List.length_cons, List.length_cons, h1], fun i x hx => ?_⟩
    cases i with
    | zero => cases (Option.some.inj hx); exact ⟨e, rfl, h.1⟩
    | succ i => exact h2 i x hx
  | [], _ :: _, h => h.elim
  | _ :: _, [], h => h.elim
theorem parts_wf : ∀ {nd : Nd}, nd.wf → ∀ e ∈ nd.parts, e.wf ∧ e.size < nd.size
  | .var _, _, e, h => nomatch h
  | .lit _ _, _, e, h => nomatch h
  | .cast _ a, w, e, h => by simp only [Nd.parts, List.mem_cons, List.not_mem_nil, or_false] at h; rw [h]; exact ⟨w.2, by simp only [Nd.size]; omega⟩
  | .neg a, w, e, h => by simp only [Nd.parts, List.mem_cons, List.not_mem_nil, or_false] at h; rw [h]; exact ⟨w.2, by simp only [Nd.size]; omega⟩
  | .bin _ a b, w, e, h => by
    simp only [Nd.parts, List.mem_cons, List.not_mem_nil, or_false] at h
    rcases h with rfl | rfl
    · exact ⟨w.2.2.1, by simp only [Nd.size]; omega⟩
    · exact ⟨w.2.2.2, by simp only [Nd.size]; omega⟩
  | .sh _ a _, w, e, h => by simp only [Nd.parts, List.mem_cons, List.not_mem_nil, or_false] at h; rw [h]; exact ⟨w.2.1, by simp only [Nd.size]; omega⟩
  | .ite a b c, w, e, h => by
    simp only [Nd.parts, List.mem_cons, List.not_mem_nil, or_false] at h
    rcases h with rfl | rfl | rfl
    · exact ⟨w.2.2.2.1, by simp only [Nd.size]; omega⟩
    · exact ⟨w.2.2.2.2.1, by simp only [Nd.size]; omega⟩
    · exact ⟨w.2.2.2.2.2, by simp only [Nd.size]; omega⟩
  | .cmp _ a b, w, e, h => by
    simp only [Nd.parts, List.mem_cons, List.not_mem_nil, or_false] at h
    rcases h with rfl | rfl
    · exact ⟨w.2.2.1, by simp only [Nd.size]; omega⟩
    · exact ⟨w.2.2.2, by simp only [Nd.size]; omega⟩
  | .nt a, w, e, h => by simp only [Nd.parts, List.mem_cons, List.not_mem_nil, or_false] at h; rw [h]; exact ⟨w.2, by simp only [Nd.size]; omega⟩
  | .lg _ a b, w, e, h => by
    simp only [Nd.parts, List.mem_cons, List.not_mem_nil, or_false] at h
    rcases h with rfl | rfl
    · exact ⟨w.2.2.1, by simp only [Nd.size]; omega⟩
    · exact ⟨w.2.2.2, by simp only [Nd.size]; omega⟩
theorem word_lit : ∀ {nd : Nd}, nd.word = "lit" → ∃ n s, nd = .lit n s
  | .lit n s, _ => ⟨n, s, rfl⟩
  | .bin .add _ _, h => absurd h (by show ("add" : Str) ≠ "lit"; decide)
  | .bin .sub _ _, h => absurd h (by show ("sub" : Str) ≠ "lit"; decide)
  | .bin .mul _ _, h => absurd h (by show ("mul" : Str) ≠ "lit"; decide)
  | .sh true _ _, h => absurd h (by show ("shl" : Str) ≠ "lit"; decide)
  | .sh false _ _, h => absurd h (by show ("shr" : Str) ≠ "lit"; decide)
  | .cmp true _ _, h => absurd h (by show ("less" : Str) ≠ "lit"; decide)
  | .cmp false _ _, h => absurd h (by show ("most" : Str) ≠ "lit"; decide)
  | .lg true _ _, h => absurd h (by show ("and" : Str) ≠ "lit"; decide)
  | .lg false _ _, h => absurd h (by show ("or" : Str) ≠ "lit"; decide)
  | .var _, h => absurd h (by show ("var" : Str) ≠ "lit"; decide)
  | .cast _ _, h => absurd h (by show ("cast" : Str) ≠ "lit"; decide)
  | .neg _, h => absurd h (by show ("neg" : Str) ≠ "lit"; decide)
  | .ite _ _ _, h => absurd h (by show ("if" : Str) ≠ "lit"; decide)
  | .nt _, h => absurd h (by show ("not" : Str) ≠ "lit"; decide)
theorem cat_at {K : PySem.W.Frag} {t u : Addr} {xs ys : List V} {H : Hp} {Q : VK} (h1 : SqT K H t xs) (h2 : SqT K H u ys) (hy : ys ≠ []) (hz : xs.length + ys.length ≤ 100000) (k : ∀ p H', Ex H H' → SqT K H' p (xs ++ ys) → Q (.ref p) H') : rCatA K (.ref t) (.ref u) H Q :=
  ⟨t, u, xs, ys, rfl, rfl, h1, h2, sz_of hz, fun hx => by subst hx; exact k u H (Ex.refl H) h2, fun _ h => absurd h hy, fun _ _ p hp => k p _ (Ex.new hp) (st_of upd_same)⟩
end Cf

namespace Cf
open PySem PySem.Spec PyProof.Rows L2 Evl
/-! ## the same tree but for its literals -/
structure Like (a b : Nd) : Prop where
  wf : b.wf
  vs : b.vars = a.vars
  sz : b.size = a.size
  e : b.isE = a.isE
def sumSz : List Nd → Nat
  | [] => 0
  | e :: es => e.size + sumSz es
theorem size_sum : ∀ nd : Nd, nd.size = 1 + sumSz nd.parts
  | .var _ => rfl | .lit _ _ => rfl | .cast _ _ => rfl | .neg _ => rfl | .sh _ _ _ => rfl | .nt _ => rfl
  | .bin _ _ _ => by simp only [Nd.size, Nd.parts, sumSz]; omega
  | .ite _ _ _ => by simp only [Nd.size, Nd.parts, sumSz]; omega
  | .cmp _ _ _ => by simp only [Nd.size, Nd.parts, sumSz]; omega
  | .lg _ _ _ => by simp only [Nd.size, Nd.parts, sumSz]; omega
theorem sum_take : ∀ (es : List Nd) (i : Nat) (e : Nd), es[i]? = some e → sumSz (es.take (i + 1)) = sumSz (es.take i) + e.size
  | x :: es, 0, e, h => by
    cases (Option.some.inj h)
    simp [sumSz]
  | x :: es, i + 1, e, h => by
    have ih := sum_take es i e h
    simp only [List.take_succ_cons, sumSz, ih]
    omega
theorem sum_le : ∀ (es : List Nd) (i : Nat), sumSz (es.take i) ≤ sumSz es
  | [], i => by simp [sumSz]
  | x :: es, 0 => by simp [sumSz]
  | x :: es, i + 1 => by
    have ih := sum_le es i
    simp only [List.take_succ_cons, sumSz]
    omega
/-- a row of like ones -/
def Likes : List Nd → List Nd → Prop
  | [], [] => True
  | a :: as, b :: bs => Like a b ∧ Likes as bs
  | _, _ => False
theorem likes_add : ∀ {as bs : List Nd} {a b : Nd}, Likes as bs → Like a b → Likes (as ++ [a]) (bs ++ [b])
  | [], [], _, _, _, h => ⟨h, trivial⟩
  | _ :: _, _ :: _, _, _, h, k => ⟨h.1, likes_add h.2 k⟩
  | [], _ :: _, _, _, h, _ => h.elim
  | _ :: _, [], _, _, h, _ => h.elim
theorem parts_add {H : Hp} : ∀ {qs : List Addr} {es : List Nd} {q : Addr} {e : Nd}, PartsAt H qs es → TreeAt H q e → PartsAt H (qs ++ [q]) (es ++ [e])
  | [], [], _, _, _, h => ⟨h, trivial⟩
  | _ :: _, _ :: _, _, _, h, k => ⟨h.1, parts_add h.2 k⟩
  | [], _ :: _, _, _, h, _ => h.elim
  | _ :: _, [], _, _, h, _ => h.elim
theorem likes_one {e : Nd} : ∀ {bs : List Nd}, Likes [e] bs → ∃ b, bs = [b] ∧ Like e b
  | [b], h => ⟨b, rfl, h.1⟩
  | [], h => h.elim
  | _ :: _ :: _, h => h.2.elim
theorem likes_two {e f : Nd} : ∀ {bs : List Nd}, Likes [e, f] bs → ∃ b c, bs = [b, c] ∧ Like e b ∧ Like f c
  | [b, c], h => ⟨b, c, rfl, h.1, h.2.1⟩
  | [], h => h.elim
  | [_], h => h.2.elim
  | _ :: _ :: _ :: _, h => h.2.2.elim
theorem likes_three {e f g : Nd} : ∀ {bs : List Nd}, Likes [e, f, g] bs → ∃ b c d, bs = [b, c, d] ∧ Like e b ∧ Like f c ∧ Like g d
  | [b, c, d], h => ⟨b, c, d, rfl, h.1, h.2.1, h.2.2.1⟩
  | [], h => h.elim
  | [_], h => h.2.elim
  | [_, _], h => h.2.2.elim
  | _ :: _ :: _ :: _ :: _, h => h.2.2.2.elim
theorem parts_one {H : Hp} {e : Nd} : ∀ {qs : List Addr}, PartsAt H qs [e] → ∃ q, qs = [q] ∧ TreeAt H q e
  | [q], h => ⟨q, rfl, h.1⟩
  | [], h => h.elim
  | _ :: _ :: _, h => h.2.elim
theorem parts_two {H : Hp} {e f : Nd} : ∀ {qs : List Addr}, PartsAt H qs [e, f] → ∃ q r, qs = [q, r] ∧ TreeAt H q e ∧ TreeAt H r f
  | [q, r], h => ⟨q, r, rfl, h.1, h.2.1⟩
  | [], h => h.elim
  | [_], h => h.2.elim
  | _ :: _ :: _ :: _, h => h.2.2.elim
theorem parts_three {H : Hp} {e f g : Nd} : ∀ {qs : List Addr}, PartsAt H qs [e, f, g] → ∃ q r s, qs = [q, r, s] ∧ TreeAt H q e ∧ TreeAt H r f ∧ TreeAt H s g
  | [q, r, s], h => ⟨q, r, s, rfl, h.1, h.2.1, h.2.2.1⟩
  | [], h => h.elim
  | [_], h => h.2.elim
  | [_, _], h => h.2.2.elim
  | _ :: _ :: _ :: _ :: _, h => h.2.2.2.elim
/-- the parts behind the word -/
theorem rebuild {H : Hp} {p : Addr} : ∀ {nd : Nd} {qs : List Addr} {es : List Nd}, inV (.str nd.word) [.str "var", .str "lit"] = false → inV (.str nd.word) [.str "cast", .str "shl", .str "shr"] = false → nd.wf → H p = some (.tup (.str nd.word :: qs.map V.ref)) → PartsAt H qs es → Likes nd.parts es → ∃ nd', TreeAt H p nd' ∧ Like nd nd'
  | .var _, _, _, h, _, _, _, _, _ => absurd h (by show ¬ true = false; decide)
  | .lit _ _, _, _, h, _, _, _, _, _ => absurd h (by show ¬ true = false; decide)
  | .cast _ _, _, _, _, h, _, _, _, _ => absurd h (by show ¬ true = false; decide)
  | .sh true _ _, _, _, _, h, _, _, _, _ => absurd h (by show ¬ true = false; decide)
  | .sh false _ _, _, _, _, h, _, _, _, _ => absurd h (by show ¬ true = false; decide)
  | .neg e, qs, es, _, _, w, hp, hP, hL => by
    obtain ⟨b, rfl, l⟩ := likes_one hL
    obtain ⟨q, rfl, t⟩ := parts_one hP
    exact ⟨.neg b, ⟨q, hp, t⟩, ⟨l.e.trans w.1, l.wf⟩, l.vs, by simp only [Nd.size, l.sz], rfl⟩
  | .nt e, qs, es, _, _, w, hp, hP, hL => by
    obtain ⟨b, rfl, l⟩ := likes_one hL
    obtain ⟨q, rfl, t⟩ := parts_one hP
    exact ⟨.nt b, ⟨q, hp, t⟩, ⟨l.e.trans w.1, l.wf⟩, l.vs, by simp only [Nd.size, l.sz], rfl⟩
  | .bin o e f, qs, es, _, _, w, hp, hP, hL => by
    obtain ⟨b, c, rfl, l, k⟩ := likes_two hL
    obtain ⟨q, r, rfl, t, u⟩ := parts_two hP
    exact ⟨.bin o b c, ⟨q, r, hp, t, u⟩, ⟨l.e.trans w.1, k.e.trans w.2.1, l.wf, k.wf⟩, by simp only [Nd.vars, l.vs, k.vs], by simp only [Nd.size, l.sz, k.sz], rfl⟩
  | .cmp o e f, qs, es, _, _, w, hp, hP, hL => by
    obtain ⟨b, c, rfl, l, k⟩ := likes_two hL
    obtain ⟨q, r, rfl, t, u⟩ := parts_two hP
    exact ⟨.cmp o b c, ⟨q, r, hp, t, u⟩, ⟨l.e.trans w.1, k.e.trans w.2.1, l.wf, k.wf⟩, by simp only [Nd.vars, l.vs, k.vs], by simp only [Nd.size, l.sz, k.sz], rfl⟩
  | .lg o e f, qs, es, _, _, w, hp, hP, hL => by
    obtain ⟨b, c, rfl, l, k⟩ := likes_two hL
    obtain ⟨q, r, rfl, t, u⟩ := parts_two hP
    exact ⟨.lg o b c, ⟨q, r, hp, t, u⟩, ⟨l.e.trans w.1, k.e.trans w.2.1, l.wf, k.wf⟩, by simp only [Nd.vars, l.vs, k.vs], by simp only [Nd.size, l.sz, k.sz], rfl⟩
  | .ite e f g, qs, es, _, _, w, hp, hP, hL => by
    obtain ⟨b, c, d, rfl, l, k, j⟩ := likes_three hL
    obtain ⟨q, r, s, rfl, t, u, v⟩ := parts_three hP
    exact ⟨.ite b c d, ⟨q, r, s, hp, t, u, v⟩, ⟨l.e.trans w.1, k.e.trans w.2.1, j.e.trans w.2.2.1, l.wf, k.wf, j.wf⟩, by simp only [Nd.vars, l.vs, k.vs, j.vs], by simp only [Nd.size, l.sz, k.sz, j.sz], rfl⟩
/-! ## data of trees -/
theorem kd_ok (k : Kd) : PyData.strOk k.s = true := by cases k <;> decide +kernel
theorem suf_ok {s : Str} (h : s ∈ sufs) : PyData.strOk s = true := by
  simp only [sufs, List.mem_cons, List.not_mem_nil, or_false] at h
  rcases h with rfl | rfl | rfl | rfl | rfl | rfl <;> decide +kernel
theorem nd_lay : ∀ {nd : Nd}, nd.wf → (∀ x ∈ nd.vars, PyData.strOk x = true) → nd.dat.canLay0 = true
  | .var x, _, h => by
    have := h x (List.mem_cons_self ..)
    simp only [Nd.dat, PyData.canLay0, PyData.canLayAll0, this, Bool.and_true]
    decide +kernel
  | .lit n s, w, _ => by
    simp only [Nd.dat, PyData.canLay0, PyData.canLayAll0, suf_ok w.2.2, Bool.and_true]
    decide +kernel
  | .cast k e, w, h => by
    simp only [Nd.dat, PyData.canLay0, PyData.canLayAll0, kd_ok, nd_lay w.2 h, Bool.and_true]
    decide +kernel
  | .neg e, w, h => by
    simp only [Nd.dat, PyData.canLay0, PyData.canLayAll0, nd_lay w.2 h, Bool.and_true]
    decide +kernel
  | .nt e, w, h => by
    simp only [Nd.dat, PyData.canLay0, PyData.canLayAll0, nd_lay w.2 h, Bool.and_true]
    decide +kernel
  | .sh b e k, w, h => by
    simp only [Nd.dat, PyData.canLay0, PyData.canLayAll0, nd_lay w.2.1 h, Bool.and_true]
    cases b <;> decide +kernel
  | .bin o e f, w, h => by
    simp only [Nd.dat, PyData.canLay0, PyData.canLayAll0, nd_lay w.2.2.1 (fun x hx => h x (List.mem_append_left _ hx)), nd_lay w.2.2.2 (fun x hx => h x (List.mem_append_right _ hx)), Bool.and_true]
    cases o <;> decide +kernel
  | .cmp o e f, w, h => by
    simp only [Nd.dat, PyData.canLay0, PyData.canLayAll0, nd_lay w.2.2.1 (fun x hx => h x (List.mem_append_left _ hx)), nd_lay w.2.2.2 (fun x hx => h x (List.mem_append_right _ hx)), Bool.and_true]
    cases o <;> decide +kernel
  | .lg o e f, w, h => by
    simp only [Nd.dat, PyData.canLay0, PyData.canLayAll0, nd_lay w.2.2.1 (fun x hx => h x (List.mem_append_left _ hx)), nd_lay w.2.2.2 (fun x hx => h x (List.mem_append_right _ hx)), Bool.and_true]
    cases o <;> decide +kernel
  | .ite e f g, w, h => by
    simp only [Nd.dat, PyData.canLay0, PyData.canLayAll0, nd_lay w.2.2.2.1 (fun x hx => h x (List.mem_append_left _ hx)), nd_lay w.2.2.2.2.1 (fun x hx => h x (List.mem_append_right _ (List.mem_append_left _ hx))), nd_lay w.2.2.2.2.2 (fun x hx => h x (List.mem_append_right _ (List.mem_append_right _ hx))), Bool.and_true]
    decide +kernel
theorem nd_depth : ∀ nd : Nd, nd.dat.depth ≤ nd.size
  | .var _ => by simp [Nd.dat, PyData.depth, PyData.depthAll, Nd.size]
  | .lit _ _ => by simp [Nd.dat, PyData.depth, PyData.depthAll, Nd.size]
  | .cast _ e => by have := nd_depth e; simp [Nd.dat, PyData.depth, PyData.depthAll, Nd.size]; omega
  | .neg e => by have := nd_depth e; simp [Nd.dat, PyData.depth, PyData.depthAll, Nd.size]; omega
  | .nt e => by have := nd_depth e; simp [Nd.dat, PyData.depth, PyData.depthAll, Nd.size]; omega
  | .sh _ e _ => by have := nd_depth e; simp [Nd.dat, PyData.depth, PyData.depthAll, Nd.size]; omega
  | .bin _ e f => by have := nd_depth e; have := nd_depth f; simp [Nd.dat, PyData.depth, PyData.depthAll, Nd.size]; omega
  | .cmp _ e f => by have := nd_depth e; have := nd_depth f; simp [Nd.dat, PyData.depth, PyData.depthAll, Nd.size]; omega
  | .lg _ e f => by have := nd_depth e; have := nd_depth f; simp [Nd.dat, PyData.depth, PyData.depthAll, Nd.size]; omega
  | .ite e f g => by have := nd_depth e; have := nd_depth f; have := nd_depth g; simp [Nd.dat, PyData.depth, PyData.depthAll, Nd.size]; omega
theorem parts_dp {K : PySem.W.Frag} {H : Hp} : ∀ {qs : List Addr} {es : List Nd}, PartsAt H qs es → DpAll K H (qs.map V.ref) (es.map Nd.dat)
  | [], [], _ => .nil
  | _ :: _, _ :: _, h => .cons h.1.dp (parts_dp h.2)
  | [], _ :: _, h => h.elim
  | _ :: _, [], h => h.elim
theorem nds_lay : ∀ {es : List Nd}, (∀ e ∈ es, e.wf ∧ ∀ x ∈ e.vars, PyData.strOk x = true) → PyData.canLayAll0 (es.map Nd.dat) = true
  | [], _ => by simp [PyData.canLayAll0]
  | e :: es, h => by
    have h1 := h e (List.mem_cons_self ..)
    have ih := nds_lay (es := es) fun x hx => h x (List.mem_cons_of_mem _ hx)
    simp [PyData.canLayAll0, nd_lay h1.1 h1.2, ih]
theorem nds_depth : ∀ es : List Nd, PyData.depthAll (es.map Nd.dat) ≤ sumSz es
  | [] => by simp [PyData.depthAll]
  | e :: es => by
    have h1 := nd_depth e
    have ih := nds_depth es
    simp only [List.map_cons, PyData.depthAll, sumSz]
    omega
theorem nds_shaped {es : List Nd} (h : ∀ e ∈ es, e.wf ∧ ∀ x ∈ e.vars, PyData.strOk x = true) (hs : sumSz es ≤ 60) : SeqAt.shaped (.list (es.map Nd.dat)) = true := by
  have h1 := nds_depth es
  show (PyData.canLay0 (.list (es.map Nd.dat)) && decide (PyData.depth (.list (es.map Nd.dat)) ≤ 64)) = true
  rw [Bool.and_eq_true]
  refine ⟨by simp only [PyData.canLay0]; exact nds_lay h, decide_eq_true ?_⟩
  simp only [PyData.depth]
  omega
theorem nds_nil (es : List Nd) : PyData.eqv (.list (es.map Nd.dat)) (.list []) = decide (es = []) := by cases es <;> simp [PyData.eqv, PyData.eqvAll]
theorem parts_vars : ∀ {nd : Nd} {e : Nd}, e ∈ nd.parts → ∀ x ∈ e.vars, x ∈ nd.vars
  | .var _, _, h, _, _ => nomatch h
  | .lit _ _, _, h, _, _ => nomatch h
  | .cast _ a, e, h, x, hx => by simp only [Nd.parts, List.mem_cons, List.not_mem_nil, or_false] at h; rw [h] at hx; exact hx
  | .neg a, e, h, x, hx => by simp only [Nd.parts, List.mem_cons, List.not_mem_nil, or_false] at h; rw [h] at hx; exact hx
  | .nt a, e, h, x, hx => by simp only [Nd.parts, List.mem_cons, List.not_mem_nil, or_false] at h; rw [h] at hx; exact hx
  | .sh _ a _, e, h, x, hx => by simp only [Nd.parts, List.mem_cons, List.not_mem_nil, or_false] at h; rw [h] at hx; exact hx
  | .bin _ a b, e, h, x, hx => by
    simp only [Nd.parts, List.mem_cons, List.not_mem_nil, or_false] at h
    rcases h with rfl | rfl
    · exact List.mem_append_left _ hx
    · exact List.mem_append_right _ hx
  | .cmp _ a b, e, h, x, hx => by
    simp only [Nd.parts, List.mem_cons, List.not_mem_nil, or_false] at h
    rcases h with rfl | rfl
    · exact List.mem_append_left _ hx
    · exact List.mem_append_right _ hx
  | .lg _ a b, e, h, x, hx => by
    simp only [Nd.parts, List.mem_cons, List.not_mem_nil, or_false] at h
    rcases h with rfl | rfl
    · exact List.mem_append_left _ hx
    · exact List.mem_append_right _ hx
  | .ite a b c, e, h, x, hx => by
    simp only [Nd.parts, List.mem_cons, List.not_mem_nil, or_false] at h
    rcases h with rfl | rfl | rfl
    · exact List.mem_append_left _ hx
    · exact List.mem_append_right _ (List.mem_append_left _ hx)
    · exact List.mem_append_right _ (List.mem_append_right _ hx)
def spPut (K : PySem.W.Frag) (d : Nat) : Sp := fun vs H Q _ => ∃ r p sch n nd m, vs = [.ref r, .ref p, .ref sch] ∧ nd.size ≤ d ∧ nd.size ≤ 30 ∧ n + 6 * nd.size < 2 ^ 45 ∧ Rng H r n ∧ TreeAt H p nd ∧ nd.wf ∧ (∀ x ∈ nd.vars, PyData.strOk x = true) ∧ AtM K H sch m ∧ m.Ok ∧
  ∀ p' nd' H', Bu r H H' → Rng H' r (n + 6 * nd.size) → TreeAt H' p' nd' → Like nd nd' → Q (.ref p') H'
theorem put_shape : ∀ nd : Nd, (∃ k e, nd = .cast k e) ∨ (∃ b e k, nd = .sh b e k) ∨ (nd.word ≠ "cast" ∧ inV (.str nd.word) [.str "shl", .str "shr"] = false ∧ (nd.parts = [] ∨ (inV (.str nd.word) [.str "var", .str "lit"] = false ∧ inV (.str nd.word) [.str "cast", .str "shl", .str "shr"] = false ∧ nd.parts ≠ [])))
  | .cast k e => .inl ⟨k, e, rfl⟩
  | .sh b e k => .inr (.inl ⟨b, e, k, rfl⟩)
  | .var _ => .inr (.inr ⟨by show ("var" : Str) ≠ "cast"; decide, rfl, .inl rfl⟩)
  | .lit _ _ => .inr (.inr ⟨by show ("lit" : Str) ≠ "cast"; decide, rfl, .inl rfl⟩)
  | .neg _ => .inr (.inr ⟨by show ("neg" : Str) ≠ "cast"; decide, rfl, .inr ⟨rfl, rfl, fun z => nomatch z⟩⟩)
  | .nt _ => .inr (.inr ⟨by show ("not" : Str) ≠ "cast"; decide, rfl, .inr ⟨rfl, rfl, fun z => nomatch z⟩⟩)
  | .ite _ _ _ => .inr (.inr ⟨by show ("if" : Str) ≠ "cast"; decide, rfl, .inr ⟨rfl, rfl, fun z => nomatch z⟩⟩)
  | .bin o _ _ => .inr (.inr ⟨by cases o <;> (show (_ : Str) ≠ "cast") <;> simp only [Nd.word, Bo.s] <;> decide, by cases o <;> rfl, .inr ⟨by cases o <;> rfl, by cases o <;> rfl, fun z => nomatch z⟩⟩)
  | .cmp b _ _ => .inr (.inr ⟨by cases b <;> (show (_ : Str) ≠ "cast") <;> simp only [Nd.word, cmpS] <;> decide, by cases b <;> rfl, .inr ⟨by cases b <;> rfl, by cases b <;> rfl, fun z => nomatch z⟩⟩)
  | .lg b _ _ => .inr (.inr ⟨by cases b <;> (show (_ : Str) ≠ "cast") <;> simp only [Nd.word, lgS] <;> decide, by cases b <;> rfl, .inr ⟨by cases b <;> rfl, by cases b <;> rfl, fun z => nomatch z⟩⟩)
theorem word_not : ∀ nd : Nd, (∃ n s, nd = .lit n s) ∨ nd.word ≠ "lit" := fun nd => by
  by_cases h : nd.word = "lit"
  · exact .inl (word_lit h)
  · exact .inr h
theorem likes_len : ∀ {as bs : List Nd}, Likes as bs → as.length = bs.length
  | [], [], _ => rfl
  | _ :: _, _ :: _, h => by rw [List.length_cons, List.length_cons, likes_len h.2]
  | [], _ :: _, h => h.elim
  | _ :: _, [], h => h.elim
theorem likes_mem : ∀ {as bs : List Nd}, Likes as bs → ∀ b ∈ bs, ∃ a ∈ as, Like a b
  | [], [], _, b, h => nomatch h
  | a :: as, b :: bs, h, c, hc => by
    rcases List.mem_cons.mp hc with rfl | hc
    · exact ⟨a, List.mem_cons_self .., h.1⟩
    · obtain ⟨x, h1, h2⟩ := likes_mem h.2 c hc
      exact ⟨x, List.mem_cons_of_mem _ h1, h2⟩
  | [], _ :: _, h, _, _ => h.elim
  | _ :: _, [], h, _, _ => h.elim
theorem likes_sum : ∀ {as bs : List Nd}, Likes as bs → sumSz bs = sumSz as
  | [], [], _ => rfl
  | _ :: _, _ :: _, h => by simp only [sumSz, h.1.sz, likes_sum h.2]
  | [], _ :: _, h => h.elim
  | _ :: _, [], h => h.elim
theorem shl1_raw {b : Nat} (h : b ≤ 128) {H : Hp} {Q : VK} (k : ∀ H', Ex H H' → Q (.int (2 ^ b)) H') : rI CPow (fun i j => .int (i * 2 ^ j.toNat)) (.int 1) (.int (b : Int)) H Q := shl1 (σ := []) h ev_c ev_c H (Ex.refl H) Q k
theorem cat_new {K : PySem.W.Frag} {t u : Addr} {xs ys : List V} {H : Hp} {Q : VK} (h1 : SqT K H t xs) (h2 : SqT K H u ys) (hx : xs ≠ []) (hy : ys ≠ []) (hz : xs.length + ys.length ≤ 100000) (k : ∀ p H', Ex H H' → H' p = some (.tup (xs ++ ys)) → Q (.ref p) H') : rCatA K (.ref t) (.ref u) H Q :=
  ⟨t, u, xs, ys, rfl, rfl, h1, h2, sz_of hz, fun h => absurd h hx, fun _ h => absurd h hy, fun _ _ p hp => k p _ (Ex.new hp) upd_same⟩
end Cf

namespace Cf
open PySem PySem.Spec PyProof.Rows L2 Evl
/-! ## enumerate(zip(a, b)) over two lists: zip's own tuple may be out, alive or gone -/
abbrev ZSt (h : Heap) (z TI TO : Addr) (q : Value) (g : Bool) : Prop :=
  h.get? z = some { cls := .type "zip", dict := none, data := .fields #[q, .bool g, .bool false, .ref TI, .ref TO], slots := #[] }
def ZOk (q : Value) : Prop := q = .none ∨ ∃ n : Nat, q = rawInt n
section
variable {pr : Program} {wo : World} {Ar : Around} {Er : Value → Shared → Prop} {st : Shared}
theorem zFree {z TI TO : Addr} {q : Value} {g : Bool} {R : Bool → Shared → Prop} (hz : ZSt st.heap z TI TO q g) (zo : ZOk q) (k : ∀ b h' g', ZSt h' z TI TO q g' → Heap.SameBut z st.heap h' → R b { st with heap := h' }) :
    wpAny (model pr wo) Ar (Builtin.SmallTypes.ownedTupleIsFree (.ref z)) R Er st := by
  unfold Builtin.SmallTypes.ownedTupleIsFree
  have kk := k true st.heap g hz (Heap.SameBut.refl _ _)
  rcases zo with rfl | ⟨n, rfl⟩
  · exact wpAny_bind (wpAny_field hz rfl (x := .none) rfl (wpAny_pure kk))
  · refine wpAny_bind (wpAny_field hz rfl (x := rawInt n) rfl ?_)
    show wpAny _ _ (loadIfAlive ((n : Int).toNat) >>= _) _ _ _
    rw [Int.toNat_natCast]
    have al : ∀ {R2 : Option Obj → Shared → Prop}, R2 (st.heap.get? n) st → wpAny (model pr wo) Ar (loadIfAlive n) R2 Er st := fun h => fun _ _ _ => h
    refine wpAny_bind (al ?_)
    cases hn : st.heap.get? n with
    | none =>
      simp only [Option.isNone_none, if_true]
      exact wpAny_pure kk
    | some o =>
      simp only [Option.isNone_some, Bool.false_eq_true, if_false]
      refine wpAny_bind (wpAny_field hz rfl (x := .bool g) rfl ?_)
      cases g with
      | true =>
        rw [if_neg (show ¬ ((Value.bool true != Value.bool true) = true) from Bool.false_ne_true)]
        exact wpAny_pure (k false st.heap true hz (Heap.SameBut.refl _ _))
      | false =>
        rw [if_pos (show (Value.bool false != Value.bool true) = true from rfl)]
        exact wpAny_bind (wpAny_setField_rec hz (by simp) fun ha hza hsa => wpAny_pure (k false ha true hza hsa))
theorem zGo {z TI TO j1 j2 a1 a2 : Addr} {n1 n2 : Nat} {xs ys : Array Value} {x y u v q : Value} {g : Bool} {R : Value → Shared → Prop} (D : ZipApart z TI TO j1 j2 a1 a2)
    (hz : ZSt st.heap z TI TO q g) (zo : ZOk q) (hI : IsPair st.heap TI (.ref j1) (.ref j2)) (hO : IsPair st.heap TO u v)
    (m1 : st.heap.IsListIter j1 a1 n1) (m2 : st.heap.IsListIter j2 a2 n2) (la : st.heap.IsList a1 xs) (lb : st.heap.IsList a2 ys) (hx : xs[n1]? = some x) (hy : ys[n2]? = some y)
    (k : ∀ h' q' g', ZSt h' z TI TO q' g' → ZOk q' → (∃ u v, IsPair h' TO u v) → h'.IsListIter j1 a1 (n1 + 1) → h'.IsListIter j2 a2 (n2 + 1) → IsPair h' st.heap.objs.size x y → h'.objs.size = st.heap.objs.size + 1 →
      (∀ b o, b ≠ z → b ≠ TO → b ≠ j1 → b ≠ j2 → st.heap.get? b = some o → h'.get? b = some o) → R (.ref st.heap.objs.size) { st with heap := h' }) :
    wpAny (model pr wo) Ar (Builtin.«zip.__next__» ⟨[.ref z], []⟩) (fun fin s' => ∃ r, fin = .done (.ret r) ∧ R r s') Er st := by
  show wpAny _ _ (field (.ref z) 2 >>= _) _ _ _
  refine wpAny_bind (wpAny_field hz rfl (x := .bool false) rfl ?_)
  show wpAny _ _ (field (.ref z) 3 >>= _) _ _ _
  refine wpAny_bind (wpAny_field hz rfl (x := .ref TI) rfl ?_)
  refine wpAny_bind (wpAny_seqItems hI rfl ?_)
  show wpAny _ _ (Builtin.SmallTypes.ownedTupleIsFree (.ref z) >>= _) _ _ _
  refine wpAny_bind (zFree hz zo fun b ha g' za sa => ?_)
  cases b with
  | true =>
    simp only [if_true]
    refine wpAny_bind (wpAny_rule ?_)
    refine wpAny_bind (wpAny_field za rfl (x := .ref TO) rfl ?_)
    refine wpAny_bind (wpAny_setField_rec za (by simp) fun hb zb sb => ?_)
    replace zb : ZSt hb z TI TO .ellipsis g' := zb
    have sab : ∀ {b o}, b ≠ z → st.heap.get? b = some o → hb.get? b = some o := fun n e => sb.extBut _ _ n (sa.extBut _ _ n e)
    refine wpAny_bind ?_
    simp only [List.zipIdx_cons, List.zipIdx_nil, List.forIn_cons, List.forIn_nil]
    refine wpAny_bind (wpAny_bind (wpAny_onRaise ?_))
    show wpAny _ _ (Builtin.SmallTypes.nextOf (.ref j1) >>= _) _ _ _
    refine wpAny_bind (wpAny_nextOf_list_item (m1.at fun o e => sab D.i1z e) (la.at fun o e => sab D.l1z e) hx fun hc m1c sc => wpAny_pure ?_)
    have Oc : IsPair hc TO u v := sc.extBut _ _ D.TOi1 (sab D.TOz hO)
    refine wpAny_bind (wpAny_seqItems Oc rfl ?_)
    refine wpAny_bind (wpAny_updateSeq_pair Oc fun hd Od sd => ?_)
    replace Od : IsPair hd TO x v := Od
    refine wpAny_bind (wpAny_letGo (wpAny_pure ?_))
    refine wpAny_bind (wpAny_bind (wpAny_onRaise ?_))
    show wpAny _ _ (Builtin.SmallTypes.nextOf (.ref j2) >>= _) _ _ _
    have sad : ∀ {b o}, b ≠ z → b ≠ j1 → b ≠ TO → st.heap.get? b = some o → hd.get? b = some o := fun n1 n2 n3 e => sd.extBut _ _ n3 (sc.extBut _ _ n2 (sab n1 e))
    refine wpAny_bind (wpAny_nextOf_list_item (m2.at fun o e => sad D.i2z D.i12.symm D.TOi2.symm e) (lb.at fun o e => sad D.l2z D.l2i1 D.l2TO e) hy fun he m2e se => wpAny_pure ?_)
    have Oe : IsPair he TO x v := se.extBut _ _ D.TOi2 Od
    refine wpAny_bind (wpAny_seqItems Oe rfl ?_)
    refine wpAny_bind (wpAny_updateSeq_pair Oe fun hf Of sf => ?_)
    replace Of : IsPair hf TO x y := Of
    refine wpAny_bind (wpAny_letGo (wpAny_pure (wpAny_pure ?_)))
    refine wpAny_bind (wpAny_seqItems Of rfl ?_)
    refine wpAny_bind (wpAny_newTuple ?_)
    have zz : hf.objs.size = st.heap.objs.size := by rw [sf.1, se.1, sd.1, sc.1, sb.1, sa.1]
    have zf : ZSt hf z TI TO .ellipsis g' := sf.extBut _ _ D.TOz.symm (se.extBut _ _ D.i2z.symm (sd.extBut _ _ D.TOz.symm (sc.extBut _ _ D.i1z.symm zb)))
    have kf : ∀ b o, b ≠ z → b ≠ TO → b ≠ j1 → b ≠ j2 → st.heap.get? b = some o → hf.get? b = some o := fun b o n1 n2 n3 n4 e => sf.extBut _ _ n2 (se.extBut _ _ n4 (sad n1 n3 n2 e))
    have m1f : hf.IsListIter j1 a1 (n1 + 1) := m1c.at fun o e => sf.extBut _ _ D.TOi1.symm (se.extBut _ _ D.i12 (sd.extBut _ _ D.TOi1.symm e))
    have m2f : hf.IsListIter j2 a2 (n2 + 1) := m2e.at fun o e => sf.extBut _ _ D.TOi2.symm e
    have zlt : z < hf.objs.size := Heap.lt_size zf
    show wpAny _ _ (Builtin.SmallTypes.ownedTupleHandOut (.ref z) (.ref hf.objs.size) >>= _) _ _ _
    refine wpAny_bind ?_
    unfold Builtin.SmallTypes.ownedTupleHandOut
    have zg : ZSt (hf.push { cls := .type "tuple", data := .seq #[x, y] }) z TI TO .ellipsis g' := Heap.get?_push_of_some _ zf
    refine wpAny_bind (wpAny_setField_rec zg (by simp) fun hh zh sh => ?_)
    replace zh : ZSt hh z TI TO (rawInt hf.objs.size) g' := zh
    refine wpAny_setField_rec zh (by simp) fun hi zi si => ?_
    replace zi : ZSt hi z TI TO (rawInt hf.objs.size) false := zi
    have up : ∀ b o, b ≠ z → hf.get? b = some o → hi.get? b = some o := fun b o n e => si.extBut _ _ n (sh.extBut _ _ n (Heap.get?_push_of_some _ e))
    have Ti : IsPair hi hf.objs.size x y := si.extBut _ _ (Nat.ne_of_gt zlt) (sh.extBut _ _ (Nat.ne_of_gt zlt) (Heap.get?_push_size _ rfl))
    have zzi : hi.objs.size = hf.objs.size + 1 := by rw [si.1, sh.1, Heap.size_push]
    rw [zz] at Ti zzi
    refine wpAny_pure ⟨_, rfl, ?_⟩
    show R (.ref hf.objs.size) _
    rw [zz]
    exact k hi _ _ zi (.inr ⟨_, rfl⟩) ⟨x, y, up _ _ D.TOz Of⟩ (m1f.at fun o e => up _ o D.i1z e) (m2f.at fun o e => up _ o D.i2z e) Ti zzi fun b o n1 n2 n3 n4 e => up b o n1 (kf b o n1 n2 n3 n4 e)
  | false =>
    simp only [Bool.false_eq_true, if_false]
    refine wpAny_bind ?_
    rw [← Array.forIn_toList]
    simp only [List.forIn_cons, List.forIn_nil]
    refine wpAny_bind (wpAny_bind (wpAny_holding ?_))
    show wpAny _ _ (Builtin.SmallTypes.nextOf (.ref j1) >>= _) _ _ _
    refine wpAny_bind (wpAny_nextOf_list_item (s := { st with heap := ha }) (m1.at fun o e => sa.extBut _ _ D.i1z e) (la.at fun o e => sa.extBut _ _ D.l1z e) hx fun hb m1b sb => wpAny_pure ?_)
    refine wpAny_pure ?_
    refine wpAny_bind (wpAny_bind (wpAny_holding ?_))
    show wpAny _ _ (Builtin.SmallTypes.nextOf (.ref j2) >>= _) _ _ _
    refine wpAny_bind (wpAny_nextOf_list_item (s := { st with heap := hb }) (m2.at fun o e => sb.extBut _ _ D.i12.symm (sa.extBut _ _ D.i2z e)) (lb.at fun o e => sb.extBut _ _ D.l2i1 (sa.extBut _ _ D.l2z e)) hy fun hc m2c sc => wpAny_pure ?_)
    refine wpAny_pure (wpAny_pure ?_)
    show wpAny _ _ (newTuple [x, y] >>= _) _ _ _
    refine wpAny_bind (wpAny_newTuple ?_)
    have zz : hc.objs.size = st.heap.objs.size := by rw [sc.1, sb.1, sa.1]
    have zc : ZSt hc z TI TO q g' := sc.extBut _ _ D.i2z.symm (sb.extBut _ _ D.i1z.symm za)
    have kc : ∀ b o, b ≠ z → b ≠ j1 → b ≠ j2 → st.heap.get? b = some o → hc.get? b = some o := fun b o n1 n2 n3 e => sc.extBut _ _ n3 (sb.extBut _ _ n2 (sa.extBut _ _ n1 e))
    refine wpAny_pure ⟨_, rfl, ?_⟩
    show R (.ref hc.objs.size) _
    have Tp : IsPair (hc.push { cls := .type "tuple", data := .seq #[x, y] }) hc.objs.size x y := Heap.get?_push_size _ rfl
    have zp : (hc.push { cls := .type "tuple", data := .seq #[x, y] }).objs.size = hc.objs.size + 1 := Heap.size_push ..
    have Oc : IsPair hc TO u v := kc _ _ D.TOz D.TOi1 D.TOi2 hO
    rw [zz] at Tp zp ⊢
    exact k _ _ _ (Heap.get?_push_of_some _ zc) zo ⟨u, v, Heap.get?_push_of_some _ Oc⟩ (m1b.at fun o e => Heap.get?_push_of_some _ (sc.extBut _ _ D.i12 e)) (m2c.at fun o e => Heap.get?_push_of_some _ e) Tp zp fun b o n1 n2 n3 n4 e => Heap.get?_push_of_some _ (kc b o n1 n3 n4 e)
theorem zEnd {z TI TO j1 j2 a1 a2 : Addr} {n1 n2 : Nat} {xs ys : Array Value} {u v q : Value} {g : Bool} {R : Fin → Shared → Prop} (hh : Ar.handled = none) (D : ZipApart z TI TO j1 j2 a1 a2)
    (hz : ZSt st.heap z TI TO q g) (zo : ZOk q) (hI : IsPair st.heap TI (.ref j1) (.ref j2)) (hO : IsPair st.heap TO u v)
    (m1 : st.heap.IsListIter j1 a1 n1) (m2 : st.heap.IsListIter j2 a2 n2) (la : st.heap.IsList a1 xs) (lb : st.heap.IsList a2 ys) (hn : xs[n1]? = none ∨ ys[n2]? = none)
    (k : ∀ h' e, (∀ b o, b ≠ z → b ≠ TO → b ≠ j1 → b ≠ j2 → st.heap.get? b = some o → h'.get? b = some o) → (∃ o, h'.get? e = some o ∧ o.cls = .type "StopIteration") → Er (.ref e) { st with heap := h' }) :
    wpAny (model pr wo) Ar (Builtin.«zip.__next__» ⟨[.ref z], []⟩) R Er st := by
  show wpAny _ _ (field (.ref z) 2 >>= _) _ _ _
  refine wpAny_bind (wpAny_field hz rfl (x := .bool false) rfl ?_)
  show wpAny _ _ (field (.ref z) 3 >>= _) _ _ _
  refine wpAny_bind (wpAny_field hz rfl (x := .ref TI) rfl ?_)
  refine wpAny_bind (wpAny_seqItems hI rfl ?_)
  show wpAny _ _ (Builtin.SmallTypes.ownedTupleIsFree (.ref z) >>= _) _ _ _
  refine wpAny_bind (zFree hz zo fun b ha g' za sa => ?_)
  cases b with
  | true =>
    simp only [if_true]
    refine wpAny_bind (wpAny_rule ?_)
    refine wpAny_bind (wpAny_field za rfl (x := .ref TO) rfl ?_)
    refine wpAny_bind (wpAny_setField_rec za (by simp) fun hb zb sb => ?_)
    replace zb : ZSt hb z TI TO .ellipsis g' := zb
    have sab : ∀ {b o}, b ≠ z → st.heap.get? b = some o → hb.get? b = some o := fun n e => sb.extBut _ _ n (sa.extBut _ _ n e)
    refine wpAny_bind ?_
    simp only [List.zipIdx_cons, List.zipIdx_nil, List.forIn_cons, List.forIn_nil]
    refine wpAny_bind (wpAny_bind (wpAny_onRaise ?_))
    show wpAny _ _ (Builtin.SmallTypes.nextOf (.ref j1) >>= _) _ _ _
    cases hx : xs[n1]? with
    | none =>
      refine wpAny_bind (wpAny_nextOf_list_end hh (m1.at fun o e => sab D.i1z e) (la.at fun o e => sab D.l1z e) hx fun hc ex sc hex => ?_)
      obtain ⟨oe, hoe, hce⟩ := hex
      have zc : ZSt hc z TI TO .ellipsis g' := sc _ _ D.i1z.symm zb
      have nez : ex ≠ z := fun w => by subst w; rw [zc] at hoe; cases hoe; simp at hce
      exact wpAny_setField_rec zc (by simp) fun hd _ sd => k hd ex (fun b o n1 _ n3 _ e => sd.extBut _ _ n1 (sc _ _ n3 (sab n1 e))) ⟨oe, sd.extBut _ _ nez hoe, hce⟩
    | some x =>
      have hy : ys[n2]? = none := by rcases hn with w | w; rw [hx] at w; cases w; exact w
      refine wpAny_bind (wpAny_nextOf_list_item (m1.at fun o e => sab D.i1z e) (la.at fun o e => sab D.l1z e) hx fun hc m1c sc => wpAny_pure ?_)
      have Oc : IsPair hc TO u v := sc.extBut _ _ D.TOi1 (sab D.TOz hO)
      refine wpAny_bind (wpAny_seqItems Oc rfl ?_)
      refine wpAny_bind (wpAny_updateSeq_pair Oc fun hd Od sd => ?_)
      refine wpAny_bind (wpAny_letGo (wpAny_pure ?_))
      refine wpAny_bind (wpAny_bind (wpAny_onRaise ?_))
      show wpAny _ _ (Builtin.SmallTypes.nextOf (.ref j2) >>= _) _ _ _
      have sad : ∀ {b o}, b ≠ z → b ≠ j1 → b ≠ TO → st.heap.get? b = some o → hd.get? b = some o := fun n1 n2 n3 e => sd.extBut _ _ n3 (sc.extBut _ _ n2 (sab n1 e))
      refine wpAny_bind (wpAny_nextOf_list_end hh (m2.at fun o e => sad D.i2z D.i12.symm D.TOi2.symm e) (lb.at fun o e => sad D.l2z D.l2i1 D.l2TO e) hy fun he ex se hex => ?_)
      obtain ⟨oe, hoe, hce⟩ := hex
      have ze : ZSt he z TI TO .ellipsis g' := se _ _ D.i2z.symm (sd.extBut _ _ D.TOz.symm (sc.extBut _ _ D.i1z.symm zb))
      have nez : ex ≠ z := fun w => by subst w; rw [ze] at hoe; cases hoe; simp at hce
      exact wpAny_setField_rec ze (by simp) fun hf _ sf => k hf ex (fun b o n1 n2 n3 n4 e => sf.extBut _ _ n1 (se _ _ n4 (sad n1 n3 n2 e))) ⟨oe, sf.extBut _ _ nez hoe, hce⟩
  | false =>
    simp only [Bool.false_eq_true, if_false]
    refine wpAny_bind ?_
    rw [← Array.forIn_toList]
    simp only [List.forIn_cons, List.forIn_nil]
    refine wpAny_bind (wpAny_bind (wpAny_holding ?_))
    show wpAny _ _ (Builtin.SmallTypes.nextOf (.ref j1) >>= _) _ _ _
    cases hx : xs[n1]? with
    | none =>
      refine wpAny_bind (wpAny_nextOf_list_end (s := { st with heap := ha }) hh (m1.at fun o e => sa.extBut _ _ D.i1z e) (la.at fun o e => sa.extBut _ _ D.l1z e) hx fun hb ex sb hex => ?_)
      exact k hb ex (fun b o n1 _ n3 _ e => sb _ _ n3 (sa.extBut _ _ n1 e)) hex
    | some x =>
      have hy : ys[n2]? = none := by rcases hn with w | w; rw [hx] at w; cases w; exact w
      refine wpAny_bind (wpAny_nextOf_list_item (s := { st with heap := ha }) (m1.at fun o e => sa.extBut _ _ D.i1z e) (la.at fun o e => sa.extBut _ _ D.l1z e) hx fun hb m1b sb => wpAny_pure ?_)
      refine wpAny_pure ?_
      refine wpAny_bind (wpAny_bind (wpAny_holding ?_))
      show wpAny _ _ (Builtin.SmallTypes.nextOf (.ref j2) >>= _) _ _ _
      refine wpAny_bind (wpAny_nextOf_list_end (s := { st with heap := hb }) hh (m2.at fun o e => sb.extBut _ _ D.i12.symm (sa.extBut _ _ D.i2z e)) (lb.at fun o e => sb.extBut _ _ D.l2i1 (sa.extBut _ _ D.l2z e)) hy fun hc ex sc hex => ?_)
      exact k hc ex (fun b o n1 _ n3 n4 e => sc _ _ n4 (sb.extBut _ _ n3 (sa.extBut _ _ n1 e))) hex
end
end Cf

namespace Cf
open PySem PySem.Spec PyProof.Rows L2 Evl
section
variable {pr : Program} {wo : World} {Ar : Around} {Er : Value → Shared → Prop} {st : Shared}
theorem zNext {z TI TO j1 j2 a1 a2 : Addr} {n1 n2 : Nat} {xs ys : Array Value} {x y u v q : Value} {g : Bool} {R : Value → Shared → Prop} (D : ZipApart z TI TO j1 j2 a1 a2)
    (hz : ZSt st.heap z TI TO q g) (zo : ZOk q) (hI : IsPair st.heap TI (.ref j1) (.ref j2)) (hO : IsPair st.heap TO u v)
    (m1 : st.heap.IsListIter j1 a1 n1) (m2 : st.heap.IsListIter j2 a2 n2) (la : st.heap.IsList a1 xs) (lb : st.heap.IsList a2 ys) (hx : xs[n1]? = some x) (hy : ys[n2]? = some y)
    (k : ∀ h' q' g', ZSt h' z TI TO q' g' → ZOk q' → (∃ u v, IsPair h' TO u v) → h'.IsListIter j1 a1 (n1 + 1) → h'.IsListIter j2 a2 (n2 + 1) → IsPair h' st.heap.objs.size x y → h'.objs.size = st.heap.objs.size + 1 →
      (∀ b o, b ≠ z → b ≠ TO → b ≠ j1 → b ≠ j2 → st.heap.get? b = some o → h'.get? b = some o) → R (.ref st.heap.objs.size) { st with heap := h' }) :
    wpAny (model pr wo) Ar (Builtin.SmallTypes.nextOf (.ref z)) R Er st := by
  have hT : st.TypeIs (.ref z) "zip" := ⟨_, hz, rfl⟩
  unfold Builtin.SmallTypes.nextOf
  exact wpAny_bind (wpAny_callSpecial?_slot (name := Str.ofString "__next__") hT F.slot_zip_next (wpAny_call_entry F.slot_zip_next hT F.entry_zip_next
    (zGo D hz zo hI hO m1 m2 la lb hx hy fun h' q' g' a b c d e f i j => wpAny_pure (k h' q' g' a b c d e f i j)) (F.args_zip_next_1 _)))
theorem zStop {z TI TO j1 j2 a1 a2 : Addr} {n1 n2 : Nat} {xs ys : Array Value} {u v q : Value} {g : Bool} {R : Value → Shared → Prop} (hh : Ar.handled = none) (D : ZipApart z TI TO j1 j2 a1 a2)
    (hz : ZSt st.heap z TI TO q g) (zo : ZOk q) (hI : IsPair st.heap TI (.ref j1) (.ref j2)) (hO : IsPair st.heap TO u v)
    (m1 : st.heap.IsListIter j1 a1 n1) (m2 : st.heap.IsListIter j2 a2 n2) (la : st.heap.IsList a1 xs) (lb : st.heap.IsList a2 ys) (hn : xs[n1]? = none ∨ ys[n2]? = none)
    (k : ∀ h' e, (∀ b o, b ≠ z → b ≠ TO → b ≠ j1 → b ≠ j2 → st.heap.get? b = some o → h'.get? b = some o) → (∃ o, h'.get? e = some o ∧ o.cls = .type "StopIteration") → Er (.ref e) { st with heap := h' }) :
    wpAny (model pr wo) Ar (Builtin.SmallTypes.nextOf (.ref z)) R Er st := by
  have hT : st.TypeIs (.ref z) "zip" := ⟨_, hz, rfl⟩
  unfold Builtin.SmallTypes.nextOf
  exact wpAny_bind (wpAny_callSpecial?_slot (name := Str.ofString "__next__") hT F.slot_zip_next (wpAny_call_entry F.slot_zip_next hT F.entry_zip_next
    (zEnd hh D hz zo hI hO m1 m2 la lb hn k) (F.args_zip_next_1 _)))
/-- enumerate's own step, whatever its iterator gives -/
theorem eGo {e z : Addr} {i : Int} {old : Value} {R : Value → Shared → Prop} (he : IsEnum st.heap e z i old)
    (hn : wpAny (model pr wo) Ar (Builtin.SmallTypes.nextOf (.ref z)) (fun x s1 => IsEnum s1.heap e z i old ∧
      ∀ h', IsEnumOut h' e z (i + 1) x s1.heap.objs.size → h'.get? s1.heap.objs.size = some { cls := .type "tuple", data := .seq #[.int i s1.toks, x] } → h'.objs.size = s1.heap.objs.size + 1 →
        (∀ b o, b ≠ e → s1.heap.get? b = some o → h'.get? b = some o) → R (.ref s1.heap.objs.size) { s1 with heap := h', toks := s1.toks + 1 }) Er st) :
    wpAny (model pr wo) Ar (Builtin.«enumerate.__next__» ⟨[.ref e], []⟩) (fun fin s' => ∃ r, fin = .done (.ret r) ∧ R r s') Er st := by
  show wpAny _ _ (field (.ref e) 2 >>= _) _ _ _
  refine wpAny_bind (wpAny_field he rfl (x := .ref z) rfl ?_)
  refine wpAny_bind (thn hn fun x s1 hq => ?_)
  obtain ⟨e1, k⟩ := hq
  obtain ⟨hp, gg, dd, tk, os⟩ := s1
  replace e1 : IsEnum hp e z i old := e1
  replace k : ∀ h', IsEnumOut h' e z (i + 1) x hp.objs.size → h'.get? hp.objs.size = some { cls := .type "tuple", data := .seq #[.int i tk, x] } → h'.objs.size = hp.objs.size + 1 → (∀ b o, b ≠ e → hp.get? b = some o → h'.get? b = some o) → R (.ref hp.objs.size) ⟨h', gg, dd, tk + 1, os⟩ := k
  show wpAny _ _ (field (.ref e) 3 >>= _) _ _ ⟨hp, gg, dd, tk, os⟩
  refine wpAny_bind (wpAny_field e1 rfl (x := rawInt i) rfl ?_)
  show wpAny _ _ (field (.ref e) 4 >>= _) _ _ ⟨hp, gg, dd, tk, os⟩
  refine wpAny_bind (wpAny_field e1 rfl (x := .none) rfl ?_)
  show wpAny _ _ (mkInt i >>= _) _ _ ⟨hp, gg, dd, tk, os⟩
  refine wpAny_bind (wpAny_mkInt ?_)
  show wpAny _ _ (setField (.ref e) 3 (rawInt (i + 1)) >>= _) _ _ ⟨hp, gg, dd, tk + 1, os⟩
  refine wpAny_bind (wpAny_setField_rec e1 (by simp) fun ha ea sa => ?_)
  replace sa : Heap.SameBut e hp ha := sa
  replace ea : IsEnum ha e z (i + 1) old := ea
  show wpAny _ _ (setField (.ref e) 4 .none >>= _) _ _ ⟨ha, gg, dd, tk + 1, os⟩
  refine wpAny_bind (wpAny_setField_rec ea (by simp) fun hb eb sb => ?_)
  replace sb : Heap.SameBut e ha hb := sb
  replace eb : IsEnum hb e z (i + 1) old := eb
  show wpAny _ _ (newTuple [.int i tk, x] >>= _) _ _ ⟨hb, gg, dd, tk + 1, os⟩
  refine wpAny_bind (wpAny_newTuple ?_)
  have zz : hb.objs.size = hp.objs.size := by rw [sb.1, sa.1]
  have elt : e < hp.objs.size := Heap.lt_size e1
  have ec : IsEnum (hb.push { cls := .type "tuple", data := .seq #[.int i tk, x] }) e z (i + 1) old := Heap.get?_push_of_some _ eb
  have tc : (hb.push { cls := .type "tuple", data := .seq #[.int i tk, x] }).get? hp.objs.size = some { cls := .type "tuple", data := .seq #[.int i tk, x] } := by
    rw [← zz]
    exact Heap.get?_push_size _ rfl
  have zc : (hb.push { cls := .type "tuple", data := .seq #[.int i tk, x] }).objs.size = hp.objs.size + 1 := by rw [Heap.size_push, zz]
  have kc : ∀ b o, b ≠ e → hp.get? b = some o → (hb.push { cls := .type "tuple", data := .seq #[.int i tk, x] }).get? b = some o := fun b o n q => Heap.get?_push_of_some _ (sb.extBut b o n (sa.extBut b o n q))
  generalize hb.push { cls := .type "tuple", data := .seq #[.int i tk, x] } = hc at ec tc zc kc
  show wpAny _ _ (Builtin.SmallTypes.ownedTupleIsFree (.ref e) >>= _) _ _ ⟨hc, gg, dd, tk + 1, os⟩
  rw [zz]
  refine wpAny_bind ?_
  unfold Builtin.SmallTypes.ownedTupleIsFree
  refine wpAny_bind (wpAny_field ec rfl (x := .none) rfl (wpAny_pure ?_))
  simp only [if_true]
  refine wpAny_bind (wpAny_rule ?_)
  refine wpAny_bind (wpAny_field ec rfl (x := old) rfl ?_)
  refine wpAny_bind (wpAny_setField_rec ec (by simp) fun hd ed sd => ?_)
  replace sd : Heap.SameBut e hc hd := sd
  replace ed : IsEnum hd e z (i + 1) x := ed
  show wpAny _ _ (Builtin.SmallTypes.ownedTupleHandOut (.ref e) (.ref hp.objs.size) >>= _) _ _ ⟨hd, gg, dd, tk + 1, os⟩
  refine wpAny_bind ?_
  unfold Builtin.SmallTypes.ownedTupleHandOut
  refine wpAny_bind (wpAny_setField_rec ed (by simp) fun hf ef sf => ?_)
  replace sf : Heap.SameBut e hd hf := sf
  replace ef : IsEnumOut hf e z (i + 1) x hp.objs.size := ef
  refine wpAny_setField_rec ef (by simp) fun hg eg sg => ?_
  replace sg : Heap.SameBut e hf hg := sg
  replace eg : IsEnumOut hg e z (i + 1) x hp.objs.size := eg
  have kg : ∀ b o, b ≠ e → hc.get? b = some o → hg.get? b = some o := fun b o n q => sg.extBut b o n (sf.extBut b o n (sd.extBut b o n q))
  refine wpAny_bind (wpAny_letGo (wpAny_pure ⟨_, rfl, k hg eg (kg _ _ (Nat.ne_of_gt elt) tc) ?_ fun b o n q => kg b o n (kc b o n q)⟩))
  rw [sg.1, sf.1, sd.1, zc]
end
end Cf

namespace Cf
open PySem PySem.Spec PyProof.Rows L2 Evl
/-- each turn: the place and a new pair, in a new pair -/
def ItEz (K : PySem.W.Frag) (a b : Addr) : It :=
  ⟨fun i H => ∃ (xs ys : List V) (x y : V), SqL K H a xs ∧ SqL K H b ys ∧ xs[i]? = some x ∧ ys[i]? = some y,
    fun i H v H' => ∃ T1 T2 x y, v = .ref T2 ∧ H T1 = none ∧ H T2 = none ∧ T1 ≠ T2 ∧ H' = upd (upd H T1 (.tup [x, y])) T2 (.tup [.int (i : Nat), .ref T1]) ∧ (∀ xs, SqL K H a xs → xs[i]? = some x) ∧ ∀ ys, SqL K H b ys → ys[i]? = some y,
    fun i H => ∃ xs ys : List V, SqL K H a xs ∧ SqL K H b ys ∧ (xs.length ≤ i ∨ ys.length ≤ i)⟩
structure EApart (e z TI TO j1 j2 a b : Addr) : Prop where
  z : e ≠ z
  TI : e ≠ TI
  TO : e ≠ TO
  j1 : e ≠ j1
  j2 : e ≠ j2
theorem turn_ez {P : Program} {w : World} {K : PySem.W.Frag} {elts : List Expr} {kk : Nat} {tpos : Pos} {e z TI TO j1 j2 a b : Addr} (D : ZipApart z TI TO j1 j2 a b) (Ee : EApart e z TI TO j1 j2 a b) :
    Turn P w K (.Tuple elts kk tpos) (ItEz K a b) [e, z, TI, TO, j1, j2] e (fun i h => (∃ old, IsEnum h e z ((i : Nat) : Int) old) ∧ (∃ q g, ZSt h z TI TO q g ∧ ZOk q) ∧ IsPair h TI (.ref j1) (.ref j2) ∧ (∃ u v, IsPair h TO u v) ∧ h.IsListIter j1 a i ∧ h.IsListIter j2 b i) where
  mem := by simp
  obj := fun i h q c hc => by
    obtain ⟨⟨old, he⟩, ⟨q, g, hz, _⟩, hI, ⟨u, v, hO⟩, ⟨o1, f1, _, d1⟩, ⟨o2, f2, _, d2⟩⟩ := q
    have e' : c = e ∨ c = z ∨ c = TI ∨ c = TO ∨ c = j1 ∨ c = j2 := by simpa using hc
    rcases e' with r | r | r | r | r | r
    · rw [r]
      exact ⟨_, he, fun v q => nomatch q⟩
    · rw [r]
      exact ⟨_, hz, fun v q => nomatch q⟩
    · rw [r]
      exact ⟨_, hI, fun v q => nomatch q⟩
    · rw [r]
      exact ⟨_, hO, fun v q => nomatch q⟩
    · rw [r]
      exact ⟨o1, f1, fun v q => by rw [d1] at q; cases q⟩
    · rw [r]
      exact ⟨o2, f2, fun v q => by rw [d2] at q; cases q⟩
  keep := fun i h h' q k => by
    obtain ⟨⟨old, he⟩, ⟨q, g, hz, zo⟩, hI, ⟨u, v, hO⟩, h1, h2⟩ := q
    exact ⟨⟨old, k e (by simp) _ he⟩, ⟨q, g, k z (by simp) _ hz, zo⟩, k TI (by simp) _ hI, ⟨u, v, k TO (by simp) _ hO⟩, h1.at fun o r => k j1 (by simp) o r, h2.at fun o r => k j2 (by simp) o r⟩
  item := by
    intro X hP hw hK hc i pins s σ H E I hf q hg
    subst hP hw hK
    obtain ⟨⟨old, he⟩, ⟨q, g, hz, zo⟩, hI, ⟨u, v, hO⟩, h1, h2⟩ := q
    obtain ⟨xs, ys, x, y, hqx, hqy, hx, hy⟩ := hg
    obtain ⟨its, rv, p, _⟩ := I.list hqx
    obtain ⟨its2, rv2, p2, _⟩ := I.list hqy
    obtain ⟨c, hu, ru⟩ := rv.get hx
    obtain ⟨d, hu2, ru2⟩ := rv2.get hy
    have hTy : s.TypeIs (.ref e) "enumerate" := ⟨_, he, rfl⟩
    have zlt : z < s.heap.objs.size := Heap.lt_size hz
    have elt : e < s.heap.objs.size := Heap.lt_size he
    have flt : ∀ c, c ∈ [e, z, TI, TO, j1, j2] → c < s.heap.objs.size := fun c hcm => by
      have e' : c = e ∨ c = z ∨ c = TI ∨ c = TO ∨ c = j1 ∨ c = j2 := by simpa using hcm
      rcases e' with r | r | r | r | r | r
      · rw [r]; exact elt
      · rw [r]; exact zlt
      · rw [r]; exact Heap.lt_size hI
      · rw [r]; exact Heap.lt_size hO
      · rw [r]; obtain ⟨_, q1, _⟩ := h1; exact Heap.lt_size q1
      · rw [r]; obtain ⟨_, q1, _⟩ := h2; exact Heap.lt_size q1
    unfold pyNext
    refine wpAny_bind (wpAny_attempt (wpAny_callSpecial?_slot (name := Str.ofString "__next__") hTy F.slot_enumerate_next (wpAny_call_entry F.slot_enumerate_next hTy F.entry_enumerate_next
      (eGo he (zNext D hz zo hI hO h1 h2 p.isList p2.isList (x := c) (y := d) (by simpa using hu) (by simpa using hu2) fun ha q' g' za zo' Oa h1a h2a Ta sza ka => ⟨ka e _ Ee.z Ee.TO Ee.j1 Ee.j2 he, fun hb eb Tb szb kb => wpAny_pure ?_⟩)) (F.args_enumerate_next_1 _))))
    have z2 : ha.objs.size = s.heap.objs.size + 1 := sza
    have n2e : ha.objs.size ≠ e := by rw [z2]; exact Nat.ne_of_gt (Nat.lt_succ_of_lt elt)
    have nf2 : ∀ b, b ∈ [e, z, TI, TO, j1, j2] → b ≠ ha.objs.size := fun b hb => by rw [z2]; exact Nat.ne_of_lt (Nat.lt_succ_of_lt (flt b hb))
    refine ⟨_, rfl, wpAny_letOwnedTupleGo_enum (s := { s with heap := hb, toks := s.toks + 1 }) eb fun hc ec sc => ?_⟩
    have kc : ∀ b o, b ≠ e → ha.get? b = some o → hc.get? b = some o := fun b o n q => (sc.2 b n).trans (kb b o n q)
    have new1 : ObjOk X.prog X.w (upd H s.heap.objs.size (.tup [x, y])) ha s.heap.objs.size (.tup [x, y]) := ⟨by show 2 ≤ sizeLine; decide, [c, d], .cons ru (.cons ru2 .nil), ⟨_, Ta, rfl, _, rfl⟩⟩
    have I1 : Inv X pins σ (upd H s.heap.objs.size (.tup [x, y])) { s with heap := ha } :=
      I.turnedNew (t' := s.toks) (ch := [e, z, TI, TO, j1, j2]) (fun b o nb q => ka b o (fun r => nb (by simp [r])) (fun r => nb (by simp [r])) (fun r => nb (by simp [r])) (fun r => nb (by simp [r])) q) hf (Nat.le_refl _) new1
    have nf : ∀ b, b ∈ [e, z, TI, TO, j1, j2] → b ≠ s.heap.objs.size := fun b hb => Nat.ne_of_lt (flt b hb)
    have f1 : ∀ b ∈ [e, z, TI, TO, j1, j2], FpOk X pins (upd H s.heap.objs.size (.tup [x, y])) b := fun b hb => ⟨by rw [upd_ne (nf b hb)]; exact (hf b hb).1, (hf b hb).2⟩
    have Tc : hc.get? ha.objs.size = some { cls := .type "tuple", data := .seq #[.int i s.toks, .ref s.heap.objs.size] } := (sc.2 _ n2e).trans Tb
    have new2 : ObjOk X.prog X.w (upd (upd H s.heap.objs.size (.tup [x, y])) ha.objs.size (.tup [.int (i : Nat), .ref s.heap.objs.size])) hc ha.objs.size (.tup [.int (i : Nat), .ref s.heap.objs.size]) :=
      ⟨by show 2 ≤ sizeLine; decide, [.int i s.toks, .ref s.heap.objs.size], .cons ⟨_, rfl⟩ (.cons rfl .nil), ⟨_, Tc, rfl, _, rfl⟩⟩
    have I2 : Inv X pins σ (upd (upd H s.heap.objs.size (.tup [x, y])) ha.objs.size (.tup [.int (i : Nat), .ref s.heap.objs.size])) { s with heap := hc, toks := s.toks + 1 } :=
      I1.turnedNew (t' := s.toks + 1) (ch := [e, z, TI, TO, j1, j2]) (fun b o nb q => kc b o (fun r => nb (by simp [r])) q) f1 (Nat.le_refl _) new2
    have fr : H s.heap.objs.size = none := I.hok.fresh (Nat.le_refl _)
    have n12 : s.heap.objs.size ≠ ha.objs.size := by rw [z2]; exact Nat.ne_of_lt (Nat.lt_succ_self _)
    have e1 : ((i + 1 : Nat) : Int) = (i : Int) + 1 := by omega
    obtain ⟨u', v', Oa⟩ := Oa
    refine ⟨.ref ha.objs.size, _, I2, rfl, ⟨_, _, x, y, rfl, fr, I.hok.fresh (by rw [z2]; exact Nat.le_succ _), n12, rfl, fun l hl => by rw [I.list_inj hl hqx]; exact hx, fun l hl => by rw [I.list_inj hl hqy]; exact hy⟩,
      ⟨⟨_, by rw [e1]; exact ec⟩, ⟨q', g', kc _ _ (Ne.symm Ee.z) za, zo'⟩, kc _ _ (Ne.symm Ee.TI) (ka _ _ D.TIz D.TITO D.TIi1 D.TIi2 hI), ⟨u', v', kc _ _ (Ne.symm Ee.TO) Oa⟩, h1a.at fun o q => kc _ o (Ne.symm Ee.j1) q, h2a.at fun o q => kc _ o (Ne.symm Ee.j2) q⟩, fun b hb => ?_⟩
    rw [upd_ne (nf2 b hb), upd_ne (nf b hb)]
    exact (hf b hb).1
  done := by
    intro X hP hw hK hc i pins s σ H E I hf q hg
    subst hP hw hK
    obtain ⟨⟨old, he⟩, ⟨q, g, hz, zo⟩, hI, ⟨u, v, hO⟩, h1, h2⟩ := q
    obtain ⟨xs, ys, hqx, hqy, hend⟩ := hg
    obtain ⟨its, rv, p, _⟩ := I.list hqx
    obtain ⟨its2, rv2, p2, _⟩ := I.list hqy
    have l1 := rv.length
    have l2 := rv2.length
    have hn : its.toArray[i]? = none ∨ its2.toArray[i]? = none := by
      rcases hend with r | r
      · exact .inl (by simp; omega)
      · exact .inr (by simp; omega)
    have hTy : s.TypeIs (.ref e) "enumerate" := ⟨_, he, rfl⟩
    have hh : X.A.handled = none := I.ok.hd hc
    unfold pyNext
    refine wpAny_bind (wpAny_attempt (wpAny_callSpecial?_slot (name := Str.ofString "__next__") hTy F.slot_enumerate_next (wpAny_call_entry F.slot_enumerate_next hTy F.entry_enumerate_next ?_ (F.args_enumerate_next_1 _))))
    show wpAny _ _ (field (.ref e) 2 >>= _) _ _ _
    refine wpAny_bind (wpAny_field he rfl (x := .ref z) rfl ?_)
    refine wpAny_bind (zStop hh D hz zo hI hO h1 h2 p.isList p2.isList hn fun h' ex k hex => ?_)
    obtain ⟨o, ho, hcl⟩ := hex
    refine wpAny_bind (wpAny_isInstance (T := "StopIteration") (b := true) ⟨o, ho, hcl⟩ isSubtype_stop ?_)
    exact wpAny_pure ⟨rfl, I.turnedL (t' := s.toks) (ch := [e, z, TI, TO, j1, j2]) (fun b o nb q => k b o (fun r => nb (by simp [r])) (fun r => nb (by simp [r])) (fun r => nb (by simp [r])) (fun r => nb (by simp [r])) q) hf⟩
  self := fun A i s Q E q h => let ⟨⟨_, he⟩, _⟩ := q; wpAny_pyIter_enum he h
/-! ## making it -/
set_option maxHeartbeats 4000000 in
theorem new_enum_zip (z TI TO : Addr) :
    Meets (Builtin.«enumerate.__new__» ⟨[.type "enumerate", .ref z], []⟩) (fun _ R s => IsZip s.heap z TI TO .none ∧
      R (.ok (.ret (.ref s.heap.objs.size))) { s with heap := s.heap.push { cls := .type "enumerate", data := .fields #[.none, .bool false, .ref z, rawInt 0, .none, .none] } }) :=
  .of_wp fun prog w A R s h => by
    obtain ⟨hp, gg, dd, tk, os⟩ := s
    obtain ⟨hz, h⟩ := h
    have hsub := sub_enumerate
    have q1 : ∀ {A2 : Around} {E2 : Value → Shared → Prop} {Q2 : Value → Shared → Prop}, Q2 (.ref z) ⟨hp, gg, dd, tk, os⟩ → wpAny (model prog w) A2 (pyIter (.ref z)) Q2 E2 ⟨hp, gg, dd, tk, os⟩ := fun q => wpAny_pyIter_zip (s := ⟨hp, gg, dd, tk, os⟩) hz q
    wp_walk using q1
    refine wpAny_stack_any fun st => wpAny_pure ?_
    split
    · rename_i c _ _ _ _ _
      cases (c == Value.type "enumerate")
      · wp_walk using q1
        exact ⟨_, rfl, h⟩
      · wp_walk using q1
        exact ⟨_, rfl, h⟩
    · wp_walk using q1
      exact ⟨_, rfl, h⟩
theorem call_enum_zip {prog : Program} {w : World} {A : Around} {E : Value → Shared → Prop} {s : Shared} {z TI TO : Addr} {Q : Value → Shared → Prop} (hz : IsZip s.heap z TI TO .none)
    (h : ∀ h', IsEnum h' s.heap.objs.size z 0 .none → h'.objs.size = s.heap.objs.size + 1 → (∀ b o, s.heap.get? b = some o → h'.get? b = some o) → Q (.ref s.heap.objs.size) { s with heap := h' }) :
    wpAny (model prog w) A (call (.type "enumerate") [.ref z]) Q E s := by
  refine callType_new F.called_enumerate (by decide) (F.typeCall_enumerate_1 _) (F.newCall_enumerate_1 _) (fun obj => F.args_object_init_2 obj _) F.entry_enumerate_new
    (new_enum_zip z TI TO) ⟨hz, ?_⟩
  have z2 : IsEnum (s.heap.push { cls := .type "enumerate", data := .fields #[.none, .bool false, .ref z, rawInt 0, .none, .none] }) s.heap.objs.size z 0 .none := Heap.get?_push_size _ rfl
  exact ⟨⟨_, z2, rfl⟩, h _ z2 (Heap.size_push ..) fun b o q => Heap.get?_push_of_some _ q⟩
def iEz (K : PySem.W.Frag) (ta : TA) : TI := fun σ H R => ta σ H fun vs H1 => ∃ a b xs ys, vs = [.ref a, .ref b] ∧ SqL K H1 a xs ∧ SqL K H1 b ys ∧ R (ItEz K a b) H1
theorem pi_ez {X : Cx} {e e2 : Expr} {ta : TA} {p p2 pos pos2 tpos : Pos} {elts : List Expr} {kk : Nat} (hg : Gl X "enumerate") (hm : X.mg "enumerate" = none) (hg2 : Gl X "zip") (hm2 : X.mg "zip" = none) (ha : PA X [e, e2] ta)
    (hs : starEach [e, e2] X.env = (false, eval e X.env) :: starEach [e2] X.env := by rfl) (hpl : (backTo pos2 (starEach [e2] X.env)).any (·.1) = false := by rfl)
    (hs2 : starEach [Expr.Call (.Name "zip" p2) [e, e2] [] pos2] X.env = [(false, eval (.Call (.Name "zip" p2) [e, e2] [] pos2) X.env)] := by rfl) :
    PI X (.Tuple elts kk tpos) (.Call (.Name "enumerate" p) [.Call (.Name "zip" p2) [e, e2] [] pos2] [] pos) (iEz X.K ta) := by
  constructor
  intro pins s σ H R I h
  refine Call_ (ld_blt I hg hm boot_enumerate (PyProof.Rows.callWith_type1 ?_ hs2 rfl))
  rw [hs2]
  refine Calls.spliced_cons ?_
  refine Call_ (ld_blt I hg2 hm2 PyProof.Rows.boot_zip (PyProof.Rows.callWith_type1 (thn (ha.run pos2 pins s σ H _ I h) fun us s1 hh => ?_) hs hpl))
  obtain ⟨vs, H1, I1, r1, a, b, xs, ys, ex, hqx, hqy, q⟩ := hh
  subst ex
  cases r1 with
  | cons r rr =>
    cases rr with
    | cons r' rr =>
      cases rr
      cases r
      cases r'
      obtain ⟨its, rv, p1, _⟩ := I1.list hqx
      obtain ⟨its2, rv2, p22, _⟩ := I1.list hqy
      refine call_zip_2 p1.isList p22.isList fun h' hz hTI hTO h1 h2 hsz hk => ?_
      have nilS : ∀ {Q2 : List Value → Shared → Prop} {s2 : Shared}, Q2 [] s2 → wpAny (model X.prog X.w) X.A (spliced (backTo pos (starEach [] X.env))) Q2 X.xe s2 := fun q => Calls.spliced_nil q
      refine nilS ?_
      have hz0 : IsZip h' (s1.heap.objs.size + 4) (s1.heap.objs.size + 2) (s1.heap.objs.size + 3) .none := hz
      refine call_enum_zip (s := { s1 with heap := h' }) hz0 fun h2' he2 hsz2 hk2 => wpAny_pyIter_enum he2 ?_
      have he2 : IsEnum h2' h'.objs.size (s1.heap.objs.size + 4) 0 .none := he2
      rw [hsz] at he2 hsz2
      have I2 : Inv X pins σ H1 { s1 with heap := h2' } := I1.kept (t' := s1.toks) fun b o q => hk2 b o (hk b o q)
      have la : a < s1.heap.objs.size := p1.lt
      have lb : b < s1.heap.objs.size := p22.lt
      show PIE X pins σ (.Tuple elts kk tpos) R (.ref h'.objs.size) _
      rw [hsz]
      refine ⟨s1.heap.objs.size + 5, [s1.heap.objs.size + 5, s1.heap.objs.size + 4, s1.heap.objs.size + 2, s1.heap.objs.size + 3, s1.heap.objs.size, s1.heap.objs.size + 1], _, _, H1, rfl, I2, turn_ez (PySem.W.ktu_apart s1.heap.objs.size a b la lb) ⟨?_, ?_, ?_, ?_, ?_⟩,
        ⟨⟨.none, he2⟩, ⟨.none, false, hk2 _ _ hz, .inl rfl⟩, hk2 _ _ hTI, ⟨_, _, hk2 _ _ hTO⟩, h1.at fun o q => hk2 _ o q, h2.at fun o q => hk2 _ o q⟩, fun c hc => ?_, q⟩
      · exact Nat.ne_of_gt (Nat.lt_succ_self _)
      · exact Nat.ne_of_gt (Nat.add_lt_add_left (by decide) _)
      · exact Nat.ne_of_gt (Nat.add_lt_add_left (by decide) _)
      · exact Nat.ne_of_gt (Nat.lt_add_of_pos_right (by decide))
      · exact Nat.ne_of_gt (Nat.add_lt_add_left (by decide) _)
      have e' : c = s1.heap.objs.size + 5 ∨ c = s1.heap.objs.size + 4 ∨ c = s1.heap.objs.size + 2 ∨ c = s1.heap.objs.size + 3 ∨ c = s1.heap.objs.size ∨ c = s1.heap.objs.size + 1 := by simpa using hc
      have hle : s1.heap.objs.size ≤ c := by
        rcases e' with r | r | r | r | r | r
        · rw [r]; exact Nat.le_add_right _ _
        · rw [r]; exact Nat.le_add_right _ _
        · rw [r]; exact Nat.le_add_right _ _
        · rw [r]; exact Nat.le_add_right _ _
        · rw [r]; exact Nat.le_refl _
        · rw [r]; exact Nat.le_add_right _ _
      exact I1.fpOk hle (I1.hok.fresh hle)
/-- a loop over it -/
def YEz (xs ys : Nat → Option V) : Nat → Hp → V → Hp → Prop := fun i H v H' => ∃ T1 T2 x y, v = .ref T2 ∧ H T1 = none ∧ H T2 = none ∧ T1 ≠ T2 ∧ H' = upd (upd H T1 (.tup [x, y])) T2 (.tup [.int (i : Nat), .ref T1]) ∧ xs i = some x ∧ ys i = some y
theorem walk_ez {K : PySem.W.Frag} {a b : Addr} {xs ys : List V} {n : Nat} (hn : n = min xs.length ys.length) : Walk (ItEz K a b) n (fun H => SqL K H a xs ∧ SqL K H b ys) (YEz (fun i => xs[i]?) (fun i => ys[i]?)) := by
  subst hn
  refine ⟨fun i _ hi q => ?_, fun _ q => ⟨xs, ys, q.1, q.2, by omega⟩, fun i H v H' _ q y => ?_⟩
  · have h1 : i < xs.length := by omega
    have h2 : i < ys.length := by omega
    exact ⟨xs, ys, xs[i], ys[i], q.1, q.2, List.getElem?_eq_getElem h1, List.getElem?_eq_getElem h2⟩
  · obtain ⟨T1, T2, u, v, p1, p2, p3, p4, p5, p6, p7⟩ := y
    exact ⟨T1, T2, u, v, p1, p2, p3, p4, p5, p6 xs q.1, p7 ys q.2⟩
theorem walk_zipT {K : PySem.W.Frag} {a b : Addr} {xs ys : List V} {n : Nat} (hn : n = min xs.length ys.length) : Walk (RZ.ItzT K a b) n (fun H => SqT K H a xs ∧ SqT K H b ys) (YPair (fun i => xs[i]?) (fun i => ys[i]?)) := by
  subst hn
  refine ⟨fun i _ hi q => ?_, fun _ q => ⟨xs, ys, q.1, q.2, by omega⟩, fun i H v H' _ q y => ?_⟩
  · have h1 : i < xs.length := by omega
    have h2 : i < ys.length := by omega
    exact ⟨xs, ys, xs[i], ys[i], q.1, q.2, List.getElem?_eq_getElem h1, List.getElem?_eq_getElem h2⟩
  · obtain ⟨T, u, v, p1, p2, p3, p4, p5⟩ := y
    exact ⟨T, u, v, p1, p2, p3, p4 xs q.1, p5 ys q.2⟩
end Cf

namespace Cf
open PySem PySem.Spec PyProof.Rows L2 Evl
/-! ## names -/
def sLETTERS : Str := "abcdefghijklmnopqrstuvwxyz"
def vRESERVED : List V := [.str "not", .str "and", .str "or", .str "cast", .str "neg", .str "none"]
def vSUFFIXES : List V := sufs.map V.str
def vCONDITIONS : List V := [.str "less", .str "most", .str "not", .str "and", .str "or"]
def vPARTS : List V := [.str "expression", .str "condition"]
def CS (mg : Str → Option Value) (x : Str) (s : Str) : Prop := ∃ t, mg x = some (.str s t)
theorem pe_cs {X : Cx} {pos : Pos} {x : Str} {s : Str} (hg : Gl X x) (c : CS X.mg x s) (hd : (x == ("__debug__" : Str)) = false := by decide) : PE X (.Name x pos) (tC (.str s)) := by
  obtain ⟨t, h⟩ := c
  exact pe_glob (v := .str s) hg h ⟨_, rfl⟩ hd
def nameOk (x : Str) : Bool := !inV (.str x) vKINDS && !inV (.str x) vRESERVED && decide (1 ≤ (x.length : Int) ∧ (x.length : Int) ≤ 8) && (x.cps.toList.all fun c => decide (c ∈ sLETTERS.cps.toList))
def preName : List V → Hp → V → Prop := fun vs H v => ∃ x, vs = [.str x] ∧ nameOk x = true ∧ v = .bl true
theorem spName {H : Hp} {x : Str} (h : nameOk x = true) : SpV (PV preName) [.str x] H (.bl true) := PV.sp fun H1 e => ⟨x, rfl, h, rfl⟩
theorem rv_sign {c : Nat} {z : Str} {H : Hp} : RV (fun x y H Q => ∃ (c : Nat) (z : Str), x = .str ⟨#[c]⟩ ∧ y = .str z ∧ Q (.bl (decide (c ∈ z.cps.toList))) H) (.str ⟨#[c]⟩) (.str z) H (.bl (decide (c ∈ z.cps.toList))) := fun H1 _ _ q => ⟨_, _, rfl, rfl, q H1 (Ex.refl H1)⟩
theorem el_lcS {te : TE} {tl : TE} {σ : L2.St} {H : Hp} {j : Nat} {vs : List Nat} {z : Str} (v : Nat → V) (h : Ev tl σ H (.str z)) (hz : z.cps.size ≤ 40000) (hw : ∀ x, wipe ((wipe σ vs).set j (some x)) vs = wipe σ vs)
    (he : ∀ (i c : Nat) H1, Ex H H1 → z.cps[i]? = some c → Ev te ((wipe σ vs).set j (some (.str ⟨#[c]⟩))) H1 (v i)) : EvL (tLc (iStr tl) (gName j) tYes te vs) σ H (given z.cps.size (fun _ => true) v) := fun H0 e Q q => h H0 e _ fun H1 e1 => ⟨z, rfl, fun Dl hD =>
  lc_it walk_str (Cw H1 (fun _ => true) v Dl) ⟨hD, Ex.new hD, upd_same⟩ (fun _ _ _ _ => trivial) (fun i x G G' hi p y => by
    obtain ⟨rfl, c, hc, rfl⟩ := y
    exact ⟨hw _, cw_turn p (by omega) (fun H3 e3 Q q => q H3 (Ex.refl H3)) (fun hf => he i c H1 (e.trans e1) hc)⟩) (fun G p => q Dl G (fresh_back e1 p.1) (e1.trans p.2.1) p.2.2)⟩
theorem ev_lenS {σ : L2.St} {H : Hp} {ta : TE} {z : Str} (h : Ev ta σ H (.str z)) (hz : z.length ≤ 100000) : Ev (tCB (fun xs H Q => ∃ z, xs = [.str z] ∧ z.length ≤ sizeLine ∧ Q (.int z.length) H) (tCons ta tNil)) σ H (.int (z.length : Int)) := ev_cb (ea_cons h ea_nil) fun H1 e Q q => ⟨z, rfl, sz_of hz, q H1 (Ex.refl H1)⟩
theorem ev_allN {K : PySem.W.Frag} {σ : L2.St} {H : Hp} {ta : TE} {bs : List Bool} (h : EvL ta σ H (bs.map V.bl)) : Ev (tCB (rAll K) (tCons ta tNil)) σ H (.bl (bs.all id)) := fun H1 e Q q => h H1 e _ fun p H2 np e2 h2 => ⟨p, bs, rfl, sq_of h2, q H2 e2⟩
/-! ## the form of nodes -/
def Nd.forms : Nd → List Str
  | .var _ => ["name"] | .lit _ _ => ["number", "suffix"] | .cast _ _ => ["kind", "expression"] | .neg _ => ["expression"] | .bin _ _ _ => ["expression", "expression"] | .sh _ _ _ => ["expression", "number"] | .ite _ _ _ => ["condition", "expression", "expression"] | .cmp _ _ _ => ["expression", "expression"] | .nt _ => ["condition"] | .lg _ _ _ => ["condition", "condition"]
def CIt (K : PySem.W.Frag) (w : World) (mg : Str → Option Value) : Prop := ∃ (a : Addr) (es : Array DictEntry) (n : Nat), mg "ITEMS" = some (.ref a) ∧ KDict K w a es n ∧ ∀ nd : Nd, ∃ t : Addr, PySem.W.nsIn K a nd.word = some (some (.ref t)) ∧ ∀ H, SqT K H t (nd.forms.map V.str)
/-- the items behind the word, by their forms -/
def Rest (H : Hp) (nd : Nd) (rest : List V) : Prop :=
  match nd with
  | .var x => rest = [.str x]
  | .lit n s => rest = [.int n, .str s]
  | .cast k e => ∃ q, rest = [k.v, .ref q] ∧ TreeAt H q e
  | .neg e => ∃ q, rest = [.ref q] ∧ TreeAt H q e
  | .bin _ e f => ∃ q r, rest = [.ref q, .ref r] ∧ TreeAt H q e ∧ TreeAt H r f
  | .sh _ e k => ∃ q, rest = [.ref q, .int k] ∧ TreeAt H q e
  | .ite c e f => ∃ o q r, rest = [.ref o, .ref q, .ref r] ∧ TreeAt H o c ∧ TreeAt H q e ∧ TreeAt H r f
  | .cmp _ e f => ∃ q r, rest = [.ref q, .ref r] ∧ TreeAt H q e ∧ TreeAt H r f
  | .nt c => ∃ q, rest = [.ref q] ∧ TreeAt H q c
  | .lg _ c d => ∃ q r, rest = [.ref q, .ref r] ∧ TreeAt H q c ∧ TreeAt H r d
theorem TreeAt.rest {H : Hp} : ∀ {nd : Nd} {p : Addr}, TreeAt H p nd → ∃ rest, H p = some (.tup (.str nd.word :: rest)) ∧ Rest H nd rest
  | .var _, _, h => ⟨_, h, rfl⟩
  | .lit _ _, _, h => ⟨_, h, rfl⟩
  | .cast _ _, _, ⟨q, h, t⟩ => ⟨_, h, q, rfl, t⟩
  | .neg _, _, ⟨q, h, t⟩ => ⟨_, h, q, rfl, t⟩
  | .bin _ _ _, _, ⟨q, r, h, t, u⟩ => ⟨_, h, q, r, rfl, t, u⟩
  | .sh _ _ _, _, ⟨q, h, t⟩ => ⟨_, h, q, rfl, t⟩
  | .ite _ _ _, _, ⟨o, q, r, h, s, t, u⟩ => ⟨_, h, o, q, r, rfl, s, t, u⟩
  | .cmp _ _ _, _, ⟨q, r, h, t, u⟩ => ⟨_, h, q, r, rfl, t, u⟩
  | .nt _, _, ⟨q, h, t⟩ => ⟨_, h, q, rfl, t⟩
  | .lg _ _ _, _, ⟨q, r, h, t, u⟩ => ⟨_, h, q, r, rfl, t, u⟩
def isPart (f : Str) : Bool := inV (.str f) vPARTS
def pick : List Str → List V → List V
  | f :: fs, x :: xs => if isPart f = true then x :: pick fs xs else pick fs xs
  | _, _ => []
theorem rest_pick {H : Hp} : ∀ {nd : Nd} {rest : List V}, Rest H nd rest → rest.length = nd.forms.length ∧ ∃ qs, pick nd.forms rest = qs.map V.ref ∧ PartsAt H qs nd.parts
  | .var _, _, h => by cases h; exact ⟨rfl, [], rfl, trivial⟩
  | .lit _ _, _, h => by cases h; exact ⟨rfl, [], rfl, trivial⟩
  | .cast _ _, _, ⟨q, rfl, t⟩ => ⟨rfl, [q], rfl, t, trivial⟩
  | .neg _, _, ⟨q, rfl, t⟩ => ⟨rfl, [q], rfl, t, trivial⟩
  | .bin _ _ _, _, ⟨q, r, rfl, t, u⟩ => ⟨rfl, [q, r], rfl, t, u, trivial⟩
  | .sh _ _ _, _, ⟨q, rfl, t⟩ => ⟨rfl, [q], rfl, t, trivial⟩
  | .ite _ _ _, _, ⟨o, q, r, rfl, s, t, u⟩ => ⟨rfl, [o, q, r], rfl, s, t, u, trivial⟩
  | .cmp _ _ _, _, ⟨q, r, rfl, t, u⟩ => ⟨rfl, [q, r], rfl, t, u, trivial⟩
  | .nt _, _, ⟨q, rfl, t⟩ => ⟨rfl, [q], rfl, t, trivial⟩
  | .lg _ _ _, _, ⟨q, r, rfl, t, u⟩ => ⟨rfl, [q, r], rfl, t, u, trivial⟩
theorem pick_step : ∀ (fs : List Str) (xs : List V) (i : Nat) (f : Str) (x : V), fs[i]? = some f → xs[i]? = some x → pick (fs.take (i + 1)) (xs.take (i + 1)) = pick (fs.take i) (xs.take i) ++ (if isPart f = true then [x] else [])
  | g :: fs, y :: xs, 0, f, x, h, k => by
    cases (Option.some.inj h)
    cases (Option.some.inj k)
    simp only [List.take_succ_cons, List.take_zero, pick]
    split <;> rfl
  | g :: fs, y :: xs, i + 1, f, x, h, k => by
    have ih := pick_step fs xs i f x h k
    simp only [List.take_succ_cons, pick]
    split
    · rw [ih, List.cons_append]
    · exact ih
  | [], _, _, _, _, h, _ => nomatch h
  | _ :: _, [], _, _, _, _, k => nomatch k
theorem pick_len : ∀ (fs : List Str) (xs : List V), (pick fs xs).length ≤ fs.length
  | [], _ => by simp [pick]
  | _ :: _, [] => by simp [pick]
  | f :: fs, x :: xs => by
    have ih := pick_len fs xs
    simp only [pick]
    split <;> simp only [List.length_cons] <;> omega
theorem forms_len (nd : Nd) : 1 ≤ nd.forms.length ∧ nd.forms.length ≤ 3 := by cases nd <;> simp [Nd.forms]
/-! ## names that are not used yet -/
def seenL (ns : List Str) : List (Key × V) := ns.map fun x => (.inr x, .bl true)
theorem seen_in {ns : List Str} {x : Str} : (valV (seenL ns) (.inr x)).isSome = decide (x ∈ ns) := by
  rw [← valV_any]
  unfold seenL
  rw [List.any_map]
  by_cases h : x ∈ ns
  · rw [decide_eq_true h, List.any_eq_true]
    exact ⟨x, h, by simp⟩
  · rw [decide_eq_false h, List.any_eq_false]
    intro y hy
    simp only [Function.comp_apply, decide_eq_true_eq]
    intro z
    exact h (Sum.inr.inj z ▸ hy)
theorem seen_put {ns : List Str} {x : Str} (h : x ∉ ns) : putK (seenL ns) (.inr x) (.bl true) = seenL (ns ++ [x]) := by
  unfold putK
  rw [valV_any, seen_in, decide_eq_false h, if_neg (by decide)]
  unfold seenL
  rw [List.map_append]
  rfl
theorem seen_drop (ns : List Str) (x : Str) : dropK (seenL ns) (.inr x) = seenL (ns.filter fun y => decide (y ∉ [x])) := by
  unfold dropK seenL
  rw [List.filter_map]
  congr 1
  apply List.filter_congr
  intro y _
  simp only [Function.comp_apply, List.mem_singleton, decide_eq_decide]
  exact ⟨fun h z => h (by rw [z]), fun h z => h (Sum.inr.inj z)⟩
theorem ev_dinK {σ : L2.St} {H : Hp} {ta td : TE} {d : Addr} {ns : List Str} {x : Str} (hx : Ev ta σ H (.str x)) (hd : Ev td σ H (.ref d)) (h : H d = some (.dK (seenL ns))) : Ev (tDIn ta td) σ H (.bl (decide (x ∈ ns))) := fun H1 e Q q =>
  hx H1 e _ fun H2 e2 => hd H2 (e.trans e2) _ fun H3 e3 => ⟨d, _, rfl, DGet.k (k := .inr x) (e3 _ _ (e2 _ _ (e _ _ h))), by
    rw [seen_in]
    exact q H3 (e2.trans e3)⟩
/-- an item that fits its form -/
def FitV (H : Hp) (ns : List Str) (f : Str) (x : V) : Prop :=
  (f = "name" ∧ ∃ s, x = .str s ∧ s ∈ ns) ∨ (f = "number" ∧ ∃ n, x = .int n ∧ 0 ≤ n) ∨ (f = "suffix" ∧ ∃ s, x = .str s ∧ s ∈ sufs) ∨ (f = "kind" ∧ ∃ k : Kd, x = k.v) ∨ f = "expression" ∨ f = "condition"
def spFits : Sp := fun vs H Q _ => ∃ (fo : Str) (x : V) (d : Addr) (ns : List Str), vs = [.str fo, x, .ref d] ∧ FitV H ns fo x ∧ H d = some (.dK (seenL ns)) ∧ ∀ H', Ex H H' → Q (.bl true) H'
theorem rest_fits {H : Hp} {ns : List Str} : ∀ {nd : Nd} {rest : List V}, Rest H nd rest → nd.wf → (∀ x ∈ nd.vars, x ∈ ns) → ∀ (i : Nat) (f : Str) (x : V), nd.forms[i]? = some f → rest[i]? = some x → FitV H ns f x
  | .var v, _, h, _, hv => fun i f x => by
    cases h
    match i with
    | 0 => intro a b; cases a; cases b; exact .inl ⟨rfl, _, rfl, hv _ (List.mem_cons_self ..)⟩
    | i + 1 => intro a b; exact nomatch a
  | .lit n s, _, h, w, _ => fun i f x => by
    cases h
    match i with
    | 0 => intro a b; cases a; cases b; exact .inr (.inl ⟨rfl, _, rfl, w.1⟩)
    | 1 => intro a b; cases a; cases b; exact .inr (.inr (.inl ⟨rfl, _, rfl, w.2.2⟩))
    | i + 2 => intro a b; exact nomatch a
  | .cast k e, _, ⟨q, rfl, _⟩, _, _ => fun i f x => by
    match i with
    | 0 => intro a b; cases a; cases b; exact .inr (.inr (.inr (.inl ⟨rfl, _, rfl⟩)))
    | 1 => intro a b; cases a; exact .inr (.inr (.inr (.inr (.inl rfl))))
    | i + 2 => intro a b; exact nomatch a
  | .neg e, _, ⟨q, rfl, _⟩, _, _ => fun i f x => by
    match i with
    | 0 => intro a b; cases a; exact .inr (.inr (.inr (.inr (.inl rfl))))
    | i + 1 => intro a b; exact nomatch a
  | .bin _ e g, _, ⟨q, r, rfl, _⟩, _, _ => fun i f x => by
    match i with
    | 0 => intro a b; cases a; exact .inr (.inr (.inr (.inr (.inl rfl))))
    | 1 => intro a b; cases a; exact .inr (.inr (.inr (.inr (.inl rfl))))
    | i + 2 => intro a b; exact nomatch a
  | .sh _ e k, _, ⟨q, rfl, _⟩, w, _ => fun i f x => by
    match i with
    | 0 => intro a b; cases a; exact .inr (.inr (.inr (.inr (.inl rfl))))
    | 1 => intro a b; cases a; cases b; exact .inr (.inl ⟨rfl, _, rfl, w.2.2.1⟩)
    | i + 2 => intro a b; exact nomatch a
  | .ite c e g, _, ⟨o, q, r, rfl, _⟩, _, _ => fun i f x => by
    match i with
    | 0 => intro a b; cases a; exact .inr (.inr (.inr (.inr (.inr rfl))))
    | 1 => intro a b; cases a; exact .inr (.inr (.inr (.inr (.inl rfl))))
    | 2 => intro a b; cases a; exact .inr (.inr (.inr (.inr (.inl rfl))))
    | i + 3 => intro a b; exact nomatch a
  | .cmp _ e g, _, ⟨q, r, rfl, _⟩, _, _ => fun i f x => by
    match i with
    | 0 => intro a b; cases a; exact .inr (.inr (.inr (.inr (.inl rfl))))
    | 1 => intro a b; cases a; exact .inr (.inr (.inr (.inr (.inl rfl))))
    | i + 2 => intro a b; exact nomatch a
  | .nt c, _, ⟨q, rfl, _⟩, _, _ => fun i f x => by
    match i with
    | 0 => intro a b; cases a; exact .inr (.inr (.inr (.inr (.inr rfl))))
    | i + 1 => intro a b; exact nomatch a
  | .lg _ c d, _, ⟨q, r, rfl, _⟩, _, _ => fun i f x => by
    match i with
    | 0 => intro a b; cases a; exact .inr (.inr (.inr (.inr (.inr rfl))))
    | 1 => intro a b; cases a; exact .inr (.inr (.inr (.inr (.inr rfl))))
    | i + 2 => intro a b; exact nomatch a
def formOf (nd : Nd) : Str := if nd.isE = true then "expression" else "condition"
def preForm (K : PySem.W.Frag) : List V → Hp → V → Prop := fun vs H v => ∃ p nd x, vs = [.ref p, x] ∧ TreeAt H p nd ∧ (x = .non ∨ x = .str (formOf nd)) ∧ v = .bl true
def spItems : Sp := fun vs H Q _ => ∃ p nd d ns, vs = [.ref p, .ref d] ∧ TreeAt H p nd ∧ nd.wf ∧ (∀ x ∈ nd.vars, x ∈ ns) ∧ H d = some (.dK (seenL ns)) ∧ ∀ H', Ex H H' → Q (.bl true) H'
theorem cond_in : ∀ nd : Nd, inV (.str nd.word) vCONDITIONS = !nd.isE
  | .var _ => rfl | .lit _ _ => rfl | .cast _ _ => rfl | .neg _ => rfl | .ite _ _ _ => rfl | .nt _ => rfl
  | .bin o _ _ => by cases o <;> rfl
  | .sh b _ _ => by cases b <;> rfl
  | .cmp b _ _ => by cases b <;> rfl
  | .lg b _ _ => by cases b <;> rfl
theorem rest_len {H : Hp} {nd : Nd} {rest : List V} (h : Rest H nd rest) : rest.length = nd.forms.length := (rest_pick h).1
def spCV : Sp := fun vs H Q _ => ∃ l rows, vs = [.ref l] ∧ VarsAt H l rows ∧ rows.length ≤ 100 ∧ (∀ w ∈ rows, nameOk w.name = true) ∧ (rows.map Row.name).Nodup ∧ (∀ w ∈ rows, w.low ≤ w.high) ∧ ∀ H', Ex H H' → Q .non H'
end Cf

namespace Cf
open PySem PySem.Spec PyProof.Rows L2 Evl
/-- a dict comprehension over anything that is walked: what a turn asks, and its loop -/
abbrev DcTurn (g : TG) (tt : TT) (tk tv : TE) (vs : List Nat) (σ : L2.St) (D : Addr) (x : V) (G : Hp) (Nx : Hp → Prop) : Prop :=
  g x (wipe σ vs) G fun τ G2 => wipe τ vs = wipe σ vs ∧ tt τ G2 fun b G3 => if b = true then tk τ G3 fun y G4 => tv τ G4 fun z G5 => ∃ kvs k, y = kV k ∧ G5 D = some (.dK kvs) ∧ kvs.length < sizeLine ∧ Nx (upd G5 D (.dK (putK kvs k z))) else Nx G3
theorem dc_walk {J : It} {n : Nat} {G : Hp → Prop} {Y : Nat → Hp → V → Hp → Prop} (w : Walk J n G Y) {g : TG} {tt : TT} {tk tv : TE} {vs : List Nat} {σ : L2.St} {H1 : Hp} {D : Addr} {Qd : Hp → Prop} (Pv : Nat → Hp → Prop) (p0 : Pv 0 (upd H1 D (.dK []))) (pG : ∀ c F, c ≤ n → Pv c F → G F)
    (ps : ∀ c x F F', c < n → Pv c F → Y c F x F' → DcTurn g tt tk tv vs σ D x F' (Pv (c + 1))) (pd : ∀ F, Pv n F → Qd F) :
    ∃ W : Nat → Nat → Hp → Prop, (∃ r, W 0 r (upd H1 D (.dK []))) ∧ ∀ c r F, W c r F → (J.stop c F ∧ Qd F) ∨ (J.go c F ∧ ∃ Nx : Hp → Prop, (∀ F', Nx F' → ∃ r', r' < r ∧ W (c + 1) r' F') ∧ ∀ x F', J.yld c F x F' → DcTurn g tt tk tv vs σ D x F' Nx) := by
  refine ⟨fun c r F => r = n - c ∧ c ≤ n ∧ Pv c F, ⟨n, by simp, Nat.zero_le _, p0⟩, fun c r F hw => ?_⟩
  obtain ⟨rfl, hc, hp⟩ := hw
  rcases Nat.lt_or_eq_of_le hc with lt | eq
  · exact .inr ⟨w.goes c F lt (pG c F hc hp), Pv (c + 1), fun F' p' => ⟨n - (c + 1), by omega, rfl, lt, p'⟩, fun x F' y => ps c x F F' lt hp (w.yields c F x F' lt (pG c F hc hp) y)⟩
  · subst eq
    exact .inl ⟨w.stops F (pG c F hc hp), pd F hp⟩
/-- name = {..} on one line, the name a local -/
theorem ps_setDc {X : Cx} {j : Nat} {v : Str} {vp : Pos} {ka va tg it : Expr} {ifs : List Expr} {sc : Scope} {own : List (Str × Nat)} {cp sp : Pos} {wi : TI} {g : TG} {tt : TT} {tk tv : TE} (hc : X.calm = true) (hN : X.N.Nodup) (hj : X.N[j]? = some v) (hv : X.env.scope.names.lookup v = some .local)
    (hsw : swapsWith (.DictComp ka va [⟨tg, it, ifs, 0⟩] sc cp) (some (.Name v vp)) sp.line X.env = pure true) (hi : PI X tg it wi) (ok : BlkOk X.N X.env.scope sc own)
    (pg : ∀ (s : Shared) (H : Hp) (C : Addr) (cl : List (Str × Addr)) (fp : List Addr), PG (X.blk s H sc (compEnvC sc cl C X.env) fp) tg g) (pt : ∀ (s : Shared) (H : Hp) (C : Addr) (cl : List (Str × Addr)) (fp : List Addr), PTs (X.blk s H sc (compEnvC sc cl C X.env) fp) ifs tt)
    (pk : ∀ (s : Shared) (H : Hp) (C : Addr) (cl : List (Str × Addr)) (fp : List Addr), PE (X.blk s H sc (compEnvC sc cl C X.env) fp) ka tk) (pvl : ∀ (s : Shared) (H : Hp) (C : Addr) (cl : List (Str × Addr)) (fp : List Addr), PE (X.blk s H sc (compEnvC sc cl C X.env) fp) va tv)
    (hs : ∀ x, foldedSetIterable it X.env x = pure x := by intro _; rfl) : PS X (.Assign [.Name v vp] (.DictComp ka va [⟨tg, it, ifs, 0⟩] sc cp) sp) (tAsg (tDc wi g tt tk tv (own.map (·.2))) (gName j)) := by
  constructor
  intro pins s σ H D I h
  rw [exec_Assign_Name_used _ _ _ _ hsw]
  refine wpAny_bind (wpAny_standAt (wpAny_bind ?_))
  show wpAny _ X.A (do let _ ← comprehension (.DictComp ka va [⟨tg, it, ifs, 0⟩] sc cp) sc X.env (firstIterPos [⟨tg, it, ifs, 0⟩] cp) newDict false (eval it X.env) (some (assign (.Name v vp) X.env))) _ _ s
  have h : tDc wi g tt tk tv (own.map (·.2)) σ H (fun x H1 => gName j x σ H1 D.nx) := h
  refine wpAny_bind (thn (dc_core (Qf := fun _ s' => SP X pins D .next s') hc hN I hi ok pg pt pk pvl hs h fun L C s' m H' J q hn fpo => ?_) fun _ s' hq => wpAny_pure (wpAny_pure hq))
  show wpAny _ _ (assign (.Name v vp) X.env (.ref L)) _ _ _
  refine wpAny_assign_Name (store_ok2 (v := V.ref L) J hN hj (.inl hv) rfl (fun s2 J2 hh => ?_) (.inr hv))
  obtain ⟨a, sb, ha⟩ := hh
  obtain ⟨q0, q1, q2, q3, q4, q5⟩ := fpo
  have nCa : C ≠ a := by
    rcases ha with z | z
    · rw [z]
      exact q1
    · exact fun e => q4 v a z e.symm
  exact ⟨m, hn.sameBut sb nCa, fun h3 sb3 => ⟨_, H', J2.turned (t' := s2.toks) (fun b o hb e => (sb3.2 b hb).trans e) q0 q1 q3 q4 q5, q⟩⟩
theorem sw_dict {ka va : Expr} {gs : List Comprehension} {sc : Scope} {cp vp : Pos} {v : Str} {l : Nat} {env : Env} (hk : env.scope.kind = .function) (hv : env.scope.names.lookup v = some .local) (hl : (vp.line == cp.line) = true)
    (ha : (sc.names.any fun (n, k) => n == v && (k == .local || k == .cell)) = false) : swapsWith (.DictComp ka va gs sc cp) (some (.Name v vp)) l env = pure true := by
  have k1 : env.kindOf v = some .local := hv
  have k2 : env.blockKind = .function := by
    unfold Env.blockKind
    rw [hk]
    rfl
  unfold swapsWith
  simp only [k2, k1, ha, Expr.pos, hl]
  rfl
/-! ## the check of expressions -/
def varsL (es : List Nd) : List Str := es.flatMap Nd.vars
theorem vars_parts : ∀ {nd : Nd}, (∀ x, nd ≠ .var x) → nd.vars = varsL nd.parts
  | .var x, h => absurd rfl (h x)
  | .lit _ _, _ => rfl
  | .cast _ _, _ => by simp [Nd.vars, varsL, Nd.parts] | .neg _, _ => by simp [Nd.vars, varsL, Nd.parts] | .nt _, _ => by simp [Nd.vars, varsL, Nd.parts] | .sh _ _ _, _ => by simp [Nd.vars, varsL, Nd.parts]
  | .bin _ _ _, _ => by simp [Nd.vars, varsL, Nd.parts] | .cmp _ _ _, _ => by simp [Nd.vars, varsL, Nd.parts] | .lg _ _ _, _ => by simp [Nd.vars, varsL, Nd.parts]
  | .ite _ _ _, _ => by simp [Nd.vars, varsL, Nd.parts]
def without (ns vs : List Str) : List Str := ns.filter fun y => decide (y ∉ vs)
theorem without_two (ns a b : List Str) : without (without ns a) b = without ns (a ++ b) := by
  unfold without
  rw [List.filter_filter]
  apply List.filter_congr
  intro x _
  simp only [List.mem_append, not_or, Bool.decide_and]
  exact Bool.and_comm ..
theorem without_nil (ns : List Str) : without ns [] = ns := by
  unfold without
  rw [List.filter_eq_self]
  intro x _
  simp
theorem without_in {ns vs : List Str} {x : Str} : x ∈ without ns vs ↔ x ∈ ns ∧ x ∉ vs := by
  unfold without
  rw [List.mem_filter, decide_eq_true_iff]
theorem without_len (ns vs : List Str) : (without ns vs).length ≤ ns.length := List.length_filter_le ..
theorem varsL_take {es : List Nd} {i : Nat} {e : Nd} (h : es[i]? = some e) : varsL (es.take (i + 1)) = varsL (es.take i) ++ e.vars := by
  rw [List.take_add_one, h]
  simp [varsL]
theorem varsL_split {es : List Nd} {i : Nat} {e : Nd} (h : es[i]? = some e) : varsL es = varsL (es.take i) ++ (e.vars ++ varsL (es.drop (i + 1))) := by
  have hi := (List.getElem?_eq_some_iff.mp h).1
  have he := (List.getElem?_eq_some_iff.mp h).2
  have : es = es.take i ++ e :: es.drop (i + 1) := by
    rw [← he, ← List.drop_eq_getElem_cons hi, List.take_append_drop]
  conv => lhs; rw [this]
  simp [varsL]
theorem forms_parts : ∀ {nd : Nd}, nd.wf → (nd.forms.filter isPart) = nd.parts.map formOf
  | .var _, _ => by simp only [Nd.forms, Nd.parts, List.map_nil]; decide +kernel
  | .lit _ _, _ => by simp only [Nd.forms, Nd.parts, List.map_nil]; decide +kernel
  | .cast _ e, w => by simp only [Nd.forms, Nd.parts, List.map_cons, List.map_nil, formOf, w.1, if_true]; decide +kernel
  | .neg e, w => by simp only [Nd.forms, Nd.parts, List.map_cons, List.map_nil, formOf, w.1, if_true]; decide +kernel
  | .nt e, w => by simp only [Nd.forms, Nd.parts, List.map_cons, List.map_nil, formOf, w.1, Bool.false_eq_true, if_false]; decide +kernel
  | .sh _ e _, w => by simp only [Nd.forms, Nd.parts, List.map_cons, List.map_nil, formOf, w.1, if_true]; decide +kernel
  | .bin _ e f, w => by simp only [Nd.forms, Nd.parts, List.map_cons, List.map_nil, formOf, w.1, w.2.1, if_true]; decide +kernel
  | .cmp _ e f, w => by simp only [Nd.forms, Nd.parts, List.map_cons, List.map_nil, formOf, w.1, w.2.1, if_true]; decide +kernel
  | .lg _ e f, w => by simp only [Nd.forms, Nd.parts, List.map_cons, List.map_nil, formOf, w.1, w.2.1, Bool.false_eq_true, if_false]; decide +kernel
  | .ite c e f, w => by simp only [Nd.forms, Nd.parts, List.map_cons, List.map_nil, formOf, w.1, w.2.1, w.2.2.1, Bool.false_eq_true, if_false, if_true]; decide +kernel
def spNode (K : PySem.W.Frag) (d : Nat) : Sp := fun vs H Q _ => ∃ t p x u pt nd ns, vs = [.ref t, .ref p, x, .ref u] ∧ SqT K H t (pathV pt) ∧ pt.length + nd.size ≤ 100 ∧ TreeAt H p nd ∧ nd.wf ∧ nd.size ≤ d ∧ (x = .non ∨ x = .str (formOf nd)) ∧ H u = some (.dK (seenL ns)) ∧ (∀ y ∈ nd.vars, y ∈ ns) ∧ nd.vars.Nodup ∧ ns.length ≤ 100 ∧
  ∀ H', Bu u H H' → H' u = some (.dK (seenL (without ns nd.vars))) → Q .non H'
def spCE : Sp := fun vs H Q _ => ∃ l p rows nd, vs = [.ref l, .ref p] ∧ VarsAt H l rows ∧ rows.length ≤ 100 ∧ (rows.map Row.name).Nodup ∧ TreeAt H p nd ∧ nd.wf ∧ nd.size ≤ 30 ∧ (∀ y ∈ nd.vars, y ∈ rows.map Row.name) ∧ nd.vars.Nodup ∧ ∀ H', Ex H H' → Q .non H'
theorem word_var : ∀ {nd : Nd}, nd.word = "var" → ∃ x, nd = .var x
  | .var x, _ => ⟨x, rfl⟩
  | .lit _ _, h => absurd h (by show ("lit" : Str) ≠ "var"; decide)
  | .bin .add _ _, h => absurd h (by show ("add" : Str) ≠ "var"; decide)
  | .bin .sub _ _, h => absurd h (by show ("sub" : Str) ≠ "var"; decide)
  | .bin .mul _ _, h => absurd h (by show ("mul" : Str) ≠ "var"; decide)
  | .sh true _ _, h => absurd h (by show ("shl" : Str) ≠ "var"; decide)
  | .sh false _ _, h => absurd h (by show ("shr" : Str) ≠ "var"; decide)
  | .cmp true _ _, h => absurd h (by show ("less" : Str) ≠ "var"; decide)
  | .cmp false _ _, h => absurd h (by show ("most" : Str) ≠ "var"; decide)
  | .lg true _ _, h => absurd h (by show ("and" : Str) ≠ "var"; decide)
  | .lg false _ _, h => absurd h (by show ("or" : Str) ≠ "var"; decide)
  | .cast _ _, h => absurd h (by show ("cast" : Str) ≠ "var"; decide)
  | .neg _, h => absurd h (by show ("neg" : Str) ≠ "var"; decide)
  | .ite _ _ _, h => absurd h (by show ("if" : Str) ≠ "var"; decide)
  | .nt _, h => absurd h (by show ("not" : Str) ≠ "var"; decide)
theorem sqt_dk {K : PySem.W.Frag} {u a : Addr} {H H1 : Hp} {kvs : List (Key × V)} {xs : List V} (e : Bu u H H1) (hu : H u = some (.dK kvs)) (h : SqT K H a xs) : SqT K H1 a xs := by
  rcases h with (h | ⟨o, h⟩) | h
  · exact .inl (.inl (e _ _ (ne_of h hu fun z => by cases z) h))
  · exact .inl (.inr ⟨o, e _ _ (ne_of h hu fun z => by cases z) h⟩)
  · exact .inr h
end Cf

namespace Cf
open PySem PySem.Spec PyProof.Rows L2 Evl
/-! ## a def with defaults -/
structure Dd (K : PySem.W.Frag) (mg : Str → Option Value) (x : Str) (st : Stmt) (ps : List Str) (dvs : List V) (f : Addr) (fd : FuncData) : Prop where
  F : FunD K x x (defArgs st) (defBody st) (defScope st) dvs [] f fd
  g : mg x = some (.ref f)
  b : Binds K fd ps []
  d : ∃ ds, Vals dvs ds ∧ Binds K fd ps ds
theorem dd_ok {P : Program} {w : World} {K : PySem.W.Frag} {mg : Str → Option Value} {base : Heap} {x : Str} {st : Stmt} {f : Addr} {fd : FuncData} {N ps : List Str} {dvs : List V} {k : Nat} {sp : Sp} (D : Dd K mg x st ps dvs f fd) (S : FnScope N ps (defScope st)) (len : ∀ vs H Q E, sp vs H Q E → vs.length = ps.length)
    (hbody : ∀ (cdv : Value) (A : Around) (outer : List Env) (s : Shared) (H : Hp) (vs : List V) (Q : VK) (E : XK), A.guards = some [] → Room k (A.deeper (envOfC x (defScope st) s.heap.objs.size f cdv)) → sp vs H Q E →
      ∃ t, PSs (cxOf CX0 P w K mg base N x (defScope st) f cdv A outer s H E).nox (defBody st) t ∧ t { nx := fun _ H' => Q .non H', rt := Q } (start N vs) H) : FnG P w K mg base CX0 (k + 1) f fd ps sp := by
  obtain ⟨oc, od, dV, kV, doc, pm, an, cdv, ct, osl, rfl, lk, hcd, _, _⟩ := D.F.ex
  exact fng_of lk hcd S len fun A outer s H vs Q E hG hr hsp => by
    obtain ⟨t, h, q⟩ := hbody cdv A outer s H vs Q E hG hr hsp
    exact ⟨t, h.nox, q⟩
def Cd (P : Program) (w : World) (K : PySem.W.Frag) (mg : Str → Option Value) (base : Heap) (k : Nat) (x : Str) (ps : List Str) (dvs : List V) (sp : Sp) : Prop :=
  ∃ (f : Addr) (fd : FuncData) (ds : List Value), FnG P w K mg base CX0 k f fd ps sp ∧ mg x = some (.ref f) ∧ PySem.W.keepIn K (.ref f) = true ∧ Vals dvs ds ∧ Binds K fd ps ds
theorem Cd.mk {P : Program} {w : World} {K : PySem.W.Frag} {mg : Str → Option Value} {base : Heap} {k : Nat} {x : Str} {st : Stmt} {ps : List Str} {dvs : List V} {sp : Sp} {f : Addr} {fd : FuncData} (D : Dd K mg x st ps dvs f fd) (F : FnG P w K mg base CX0 k f fd ps sp) : Cd P w K mg base k x ps dvs sp := by
  obtain ⟨ds, r, b⟩ := D.d
  exact ⟨f, fd, ds, F, D.g, D.F.kp, r, b⟩
theorem Cl.mkd {P : Program} {w : World} {K : PySem.W.Frag} {mg : Str → Option Value} {base : Heap} {k : Nat} {x : Str} {st : Stmt} {ps : List Str} {dvs : List V} {sp : Sp} {f : Addr} {fd : FuncData} (D : Dd K mg x st ps dvs f fd) (F : FnG P w K mg base CX0 k f fd ps sp) : Cl P w K mg base k x ps sp := ⟨f, fd, F, D.g, D.F.kp, D.b⟩
section
variable {X : Cx} {j k : Nat} {ps : List Str} {sp : Sp} {x : Str} {p pos : Pos} {e : Expr} {es : List Expr} {t : TA} {dvs : List V}
theorem pe_cd (C : Cd X.prog X.w X.K X.mg X.base j x ps dvs sp) (hG : X.A.guards = some []) (hr : Room k X.A) (hg : Gl X x) (ha : PA X (e :: es) t) (hjk : j ≤ k := by decide)
    (hdb : (x == ("__debug__" : Str)) = false := by decide)
    (he : starEach (e :: es) X.env = (false, eval e X.env) :: starEach es X.env := by rfl)
    (hpl : (backTo pos (starEach es X.env)).any (·.1) = false := by rfl) : PE X (.Call (.Name x p) (e :: es) [] pos) (tCall sp dvs E0 t) := by
  obtain ⟨f, fd, ds, F, g, kp, r, b⟩ := C
  exact pe_g F hG (hr.mono hjk) hg g kp b r pass0 ha hdb he hpl
end
/-! ## all nodes in order -/
def allF : Nat → Nd → List Nat → List (List Nat × Nd)
  | 0, _, _ => []
  | d + 1, nd, pt => (pt, nd) :: (nd.parts.zipIdx).flatMap fun q => allF d q.1 (pt ++ [q.2])
def isBad (m : Md) (it : List Nat × Nd) : Bool := match it.2 with
  | .lit n s => (m.lit n s).isNone
  | _ => false
theorem isBad_lit {m : Md} {pt : List Nat} {nd : Nd} : isBad m (pt, nd) = true ↔ ∃ n s, nd = .lit n s ∧ m.lit n s = none := by
  cases nd with
  | lit n s =>
    constructor
    · intro h
      exact ⟨n, s, rfl, Option.isNone_iff_eq_none.mp h⟩
    · intro h
      obtain ⟨a, b, h1, h2⟩ := h
      cases h1
      exact Option.isNone_iff_eq_none.mpr h2
  | _ => simp [isBad]
theorem find_flat {m : Md} {d : Nat} (pt : List Nat) : ∀ (es : List Nd) (k : Nat), (∀ e ∈ es, ∀ pt : List Nat, ((allF d e pt).find? (isBad m)).map Prod.fst = (e.bad m).map (pt ++ ·)) →
    (((es.zipIdx k).flatMap fun q => allF d q.1 (pt ++ [q.2])).find? (isBad m)).map Prod.fst = (badL m k es).map (pt ++ ·)
  | [], _, _ => rfl
  | e :: es, k, ih => by
    have h1 := ih e (List.mem_cons_self ..) (pt ++ [k])
    have h2 := find_flat pt es (k + 1) fun x hx => ih x (List.mem_cons_of_mem _ hx)
    rw [List.zipIdx_cons, List.flatMap_cons, List.find?_append]
    simp only [badL]
    cases hb : e.bad m with
    | none =>
      rw [hb] at h1
      have h3 : (allF d e (pt ++ [k])).find? (isBad m) = none := by
        cases hf : (allF d e (pt ++ [k])).find? (isBad m) with
        | none => rfl
        | some z => rw [hf] at h1; exact nomatch h1
      rw [h3]
      simpa using h2
    | some q =>
      rw [hb] at h1
      cases hf : (allF d e (pt ++ [k])).find? (isBad m) with
      | none => rw [hf] at h1; exact nomatch h1
      | some z =>
        rw [hf] at h1
        simp only [Option.map_some, Option.some_or] at h1 ⊢
        rw [Option.some.inj h1]
        simp
theorem find_all {m : Md} : ∀ (d : Nat) (nd : Nd) (pt : List Nat), nd.wf → nd.size ≤ d → ((allF d nd pt).find? (isBad m)).map Prod.fst = (nd.bad m).map (pt ++ ·)
  | 0, nd, pt, _, h => by have := size_sum nd; omega
  | d + 1, nd, pt, hw, h => by
    rw [allF, List.find?_cons]
    cases hb : isBad m (pt, nd) with
    | true =>
      obtain ⟨n, s, rfl, h2⟩ := isBad_lit.mp hb
      simp [Nd.bad, h2]
    | false =>
      have hn : ∀ n s, nd = .lit n s → m.lit n s ≠ none := fun n s z y => by
        have h3 : isBad m (pt, nd) = true := isBad_lit.mpr ⟨n, s, z, y⟩
        rw [hb] at h3
        exact nomatch h3
      rw [bad_parts hn]
      exact find_flat pt nd.parts 0 fun e he pt2 => find_all d e pt2 (parts_wf hw e he).1 (by have := (parts_wf hw e he).2; omega)
theorem all_wf : ∀ (d : Nat) (nd : Nd) (pt : List Nat), nd.wf → ∀ it ∈ allF d nd pt, it.2.wf
  | 0, _, _, _, it, h => nomatch h
  | d + 1, nd, pt, hw, it, h => by
    rw [allF] at h
    rcases List.mem_cons.mp h with rfl | h
    · exact hw
    · obtain ⟨q, hq, hi⟩ := List.mem_flatMap.mp h
      have hm := List.mem_zipIdx hq
      exact all_wf d q.1 _ (parts_wf hw q.1 (by rw [hm.2.2]; exact List.getElem_mem _)).1 it hi
theorem all_len : ∀ (d : Nat) (nd : Nd) (pt : List Nat), (allF d nd pt).length ≤ nd.size
  | 0, nd, _ => Nat.zero_le _
  | d + 1, nd, pt => by
    rw [allF, List.length_cons, List.length_flatMap]
    have : ∀ (es : List Nd) (k : Nat), ((es.zipIdx k).map fun q => (allF d q.1 (pt ++ [q.2])).length).sum ≤ sumSz es := fun es => by
      induction es with
      | nil => intro k; simp [sumSz]
      | cons e es ih =>
        intro k
        have h1 := all_len d e (pt ++ [k])
        have h2 := ih (k + 1)
        simp only [List.zipIdx_cons, List.map_cons, List.sum_cons, sumSz]
        omega
    have h1 := this nd.parts 0
    have h2 := size_sum nd
    omega
/-- a list of pairs (path, node) -/
def AllAt (K : PySem.W.Frag) (H : Hp) (l : Addr) (its : List (List Nat × Nd)) : Prop := ∃ ps : List Addr, H l = some (.lst (ps.map V.ref)) ∧ ps.length = its.length ∧ ∀ (j : Nat) (it : List Nat × Nd), its[j]? = some it → ∃ p t q, ps[j]? = some p ∧ H p = some (.tup [.ref t, .ref q]) ∧ SqT K H t (pathV it.1) ∧ TreeAt H q it.2
def spAll (K : PySem.W.Frag) (d : Nat) : Sp := fun vs H Q _ => ∃ p t nd pt, vs = [.ref p, .ref t] ∧ TreeAt H p nd ∧ nd.size ≤ d ∧ nd.size ≤ 60 ∧ SqT K H t (pathV pt) ∧ pt.length + nd.size ≤ 100 ∧ ∀ l H', H l = none → Ex H H' → AllAt K H' l (allF d nd pt) → Q (.ref l) H'
theorem flat_take {d : Nat} {pt : List Nat} : ∀ (es : List Nd) (k i : Nat) (e : Nd), es[i]? = some e → (((es.take (i + 1)).zipIdx k).flatMap fun q => allF d q.1 (pt ++ [q.2])) = (((es.take i).zipIdx k).flatMap fun q => allF d q.1 (pt ++ [q.2])) ++ allF d e (pt ++ [k + i])
  | x :: es, k, 0, e, h => by
    cases (Option.some.inj h)
    simp
  | x :: es, k, i + 1, e, h => by
    have ih := flat_take (d := d) (pt := pt) es (k + 1) i e h
    rw [show k + 1 + i = k + (i + 1) by omega] at ih
    simp only [List.take_succ_cons, List.zipIdx_cons, List.flatMap_cons, ih, List.append_assoc]
def spRef (K : PySem.W.Frag) : Sp := fun vs H Q _ => ∃ sch l p m rows nd, vs = [.ref sch, .ref l, .ref p] ∧ AtM K H sch m ∧ m.Ok ∧ VarsAt H l rows ∧ TreeAt H p nd ∧ nd.wf ∧ nd.size ≤ 30 ∧ ∀ v H', Ex H H' → Dp K H' v (admD m rows nd []) → Q v H'
def spAdmission (K : PySem.W.Frag) : Sp := fun vs H Q _ => ∃ sch l p m rows nd, vs = [.ref sch, .ref l, .ref p] ∧ AtM K H sch m ∧ m.Ok ∧ VarsAt H l rows ∧ rows.length ≤ 100 ∧ (∀ w ∈ rows, nameOk w.name = true) ∧ (rows.map Row.name).Nodup ∧ (∀ w ∈ rows, w.low ≤ w.high) ∧ TreeAt H p nd ∧ nd.wf ∧ nd.size ≤ 30 ∧ (∀ y ∈ nd.vars, y ∈ rows.map Row.name) ∧ nd.vars.Nodup ∧ ∀ v H', Ex H H' → Dp K H' v (admD m rows nd []) → Q v H'
theorem flat_len {d : Nat} {pt : List Nat} (es : List Nd) : ∀ k : Nat, ((es.zipIdx k).flatMap fun q => allF d q.1 (pt ++ [q.2])).length ≤ sumSz es := by
  induction es with
  | nil => intro k; simp [sumSz]
  | cons e es ih =>
    intro k
    have h1 := all_len d e (pt ++ [k])
    have h2 := ih (k + 1)
    simp only [List.zipIdx_cons, List.flatMap_cons, List.length_append, sumSz]
    omega
end Cf

namespace Cf
open PySem PySem.Spec PyProof.Rows L2 Evl
/-! ## what is shown of variables and expressions -/
def Row.dat (w : Row) : PyData := .tuple [.str w.name, .str w.kind.s, .int w.low, .int w.high]
theorem VarsAt.dp {K : PySem.W.Frag} {H : Hp} {l : Addr} {rows : List Row} (h : VarsAt H l rows) : Dp K H (.ref l) (.list (rows.map Row.dat)) := by
  obtain ⟨ps, a, b, c⟩ := h
  refine .lst (sq_of a) ?_
  clear a
  induction rows generalizing ps with
  | nil =>
    have : ps = [] := List.length_eq_zero_iff.mp b
    rw [this]
    exact .nil
  | cons w rows ih =>
    match ps, b, c with
    | p :: ps, b, c =>
      obtain ⟨p2, h1, h2⟩ := c 0 w rfl
      cases (Option.some.inj h1)
      exact .cons (.tup (st_of h2) (.cons (.str _) (.cons (.str _) (.cons (.int _) (.cons (.int _) .nil))))) (ih ps (Nat.succ.inj b) fun j x hx => c (j + 1) x hx)
def smStr (x : Str) : Bool := decide (x.cps.size ≤ 30) && x.cps.toList.all fun c => decide (c < 16 ^ 8)
theorem sm_str {x : Str} (h : smStr x = true) : Sm (.str x) := by
  unfold smStr at h
  rw [Bool.and_eq_true, decide_eq_true_iff] at h
  exact h
theorem kd_sm (k : Kd) : smStr k.s = true := by cases k <;> decide +kernel
theorem suf_sm {s : Str} (h : s ∈ sufs) : smStr s = true := by
  simp only [sufs, List.mem_cons, List.not_mem_nil, or_false] at h
  rcases h with rfl | rfl | rfl | rfl | rfl | rfl <;> decide +kernel
theorem rows_sm : ∀ {rows : List Row}, (∀ w ∈ rows, smStr w.name = true) → (∀ w ∈ rows, w.Fit) → SmAll (rows.map Row.dat)
  | [], _, _ => trivial
  | w :: rows, h, f => by
    obtain ⟨f1, f2, f3⟩ := f w (List.mem_cons_self ..)
    refine ⟨⟨sm_str (h w (List.mem_cons_self ..)), sm_str (kd_sm w.kind), ?_, ?_, trivial⟩, rows_sm (fun x hx => h x (List.mem_cons_of_mem _ hx)) fun x hx => f x (List.mem_cons_of_mem _ hx)⟩
    · show w.low.natAbs < 2 ^ 140
      omega
    · show w.high.natAbs < 2 ^ 140
      omega
theorem rows_sz : ∀ rows : List Row, szAll (rows.map Row.dat) = 5 * rows.length
  | [] => rfl
  | w :: rows => by
    have ih := rows_sz rows
    simp only [List.map_cons, szAll, Row.dat, szD, ih, List.length_cons]
    omega
theorem rows_dep : ∀ rows : List Row, PyData.depthAll (rows.map Row.dat) ≤ 1
  | [] => by simp [PyData.depthAll]
  | w :: rows => by
    have ih := rows_dep rows
    simp only [List.map_cons, PyData.depthAll, Row.dat, PyData.depth]
    omega
theorem word_sm : ∀ nd : Nd, Sm (.str nd.word)
  | .var _ => sm_str (by show smStr "var" = true; decide +kernel)
  | .lit _ _ => sm_str (by show smStr "lit" = true; decide +kernel)
  | .cast _ _ => sm_str (by show smStr "cast" = true; decide +kernel)
  | .neg _ => sm_str (by show smStr "neg" = true; decide +kernel)
  | .ite _ _ _ => sm_str (by show smStr "if" = true; decide +kernel)
  | .nt _ => sm_str (by show smStr "not" = true; decide +kernel)
  | .bin .add _ _ => sm_str (by show smStr "add" = true; decide +kernel)
  | .bin .sub _ _ => sm_str (by show smStr "sub" = true; decide +kernel)
  | .bin .mul _ _ => sm_str (by show smStr "mul" = true; decide +kernel)
  | .sh true _ _ => sm_str (by show smStr "shl" = true; decide +kernel)
  | .sh false _ _ => sm_str (by show smStr "shr" = true; decide +kernel)
  | .cmp true _ _ => sm_str (by show smStr "less" = true; decide +kernel)
  | .cmp false _ _ => sm_str (by show smStr "most" = true; decide +kernel)
  | .lg true _ _ => sm_str (by show smStr "and" = true; decide +kernel)
  | .lg false _ _ => sm_str (by show smStr "or" = true; decide +kernel)
theorem nd_sm : ∀ {nd : Nd}, nd.wf → (∀ x ∈ nd.vars, smStr x = true) → Sm nd.dat
  | .var x, _, h => ⟨word_sm (.var x), sm_str (h x (List.mem_cons_self ..)), trivial⟩
  | .lit n s, w, _ => ⟨word_sm (.lit n s), by obtain ⟨w1, w2, _⟩ := w; show n.natAbs < 2 ^ 140; omega, sm_str (suf_sm w.2.2), trivial⟩
  | .cast k e, w, h => ⟨word_sm (.cast k e), sm_str (kd_sm k), nd_sm w.2 h, trivial⟩
  | .neg e, w, h => ⟨word_sm (.neg e), nd_sm w.2 h, trivial⟩
  | .nt e, w, h => ⟨word_sm (.nt e), nd_sm w.2 h, trivial⟩
  | .sh b e k, w, h => ⟨word_sm (.sh b e k), nd_sm w.2.1 h, by obtain ⟨_, _, w1, w2⟩ := w; show k.natAbs < 2 ^ 140; omega, trivial⟩
  | .bin o e f, w, h => ⟨word_sm (.bin o e f), nd_sm w.2.2.1 (fun x hx => h x (List.mem_append_left _ hx)), nd_sm w.2.2.2 (fun x hx => h x (List.mem_append_right _ hx)), trivial⟩
  | .cmp o e f, w, h => ⟨word_sm (.cmp o e f), nd_sm w.2.2.1 (fun x hx => h x (List.mem_append_left _ hx)), nd_sm w.2.2.2 (fun x hx => h x (List.mem_append_right _ hx)), trivial⟩
  | .lg o e f, w, h => ⟨word_sm (.lg o e f), nd_sm w.2.2.1 (fun x hx => h x (List.mem_append_left _ hx)), nd_sm w.2.2.2 (fun x hx => h x (List.mem_append_right _ hx)), trivial⟩
  | .ite c e f, w, h => ⟨word_sm (.ite c e f), nd_sm w.2.2.2.1 (fun x hx => h x (List.mem_append_left _ hx)), nd_sm w.2.2.2.2.1 (fun x hx => h x (List.mem_append_right _ (List.mem_append_left _ hx))), nd_sm w.2.2.2.2.2 (fun x hx => h x (List.mem_append_right _ (List.mem_append_right _ hx))), trivial⟩
theorem nd_sz : ∀ nd : Nd, szD nd.dat ≤ 4 * nd.size
  | .var _ => by simp [Nd.dat, szD, szAll, Nd.size] | .lit _ _ => by simp [Nd.dat, szD, szAll, Nd.size]
  | .cast _ e => by have := nd_sz e; simp only [Nd.dat, szD, szAll, Nd.size]; omega
  | .neg e => by have := nd_sz e; simp only [Nd.dat, szD, szAll, Nd.size]; omega
  | .nt e => by have := nd_sz e; simp only [Nd.dat, szD, szAll, Nd.size]; omega
  | .sh _ e _ => by have := nd_sz e; simp only [Nd.dat, szD, szAll, Nd.size]; omega
  | .bin _ e f => by have := nd_sz e; have := nd_sz f; simp only [Nd.dat, szD, szAll, Nd.size]; omega
  | .cmp _ e f => by have := nd_sz e; have := nd_sz f; simp only [Nd.dat, szD, szAll, Nd.size]; omega
  | .lg _ e f => by have := nd_sz e; have := nd_sz f; simp only [Nd.dat, szD, szAll, Nd.size]; omega
  | .ite c e f => by have := nd_sz c; have := nd_sz e; have := nd_sz f; simp only [Nd.dat, szD, szAll, Nd.size]; omega
/-- where the first literal without a type stands is no deeper than the tree, and its path is small -/
theorem bad_len {m : Md} : ∀ {nd : Nd} {q : List Nat}, nd.bad m = some q → q.length < nd.size ∧ ∀ i ∈ q, i ≤ 2
  | .var _, q, h => nomatch h
  | .lit n s, q, h => by
    unfold Nd.bad at h
    split at h
    · cases (Option.some.inj h)
      exact ⟨by simp [Nd.size], fun i hi => nomatch hi⟩
    · exact nomatch h
  | .cast _ e, q, h => one h (fun z => bad_len z)
  | .neg e, q, h => one h (fun z => bad_len z)
  | .nt e, q, h => one h (fun z => bad_len z)
  | .sh _ e _, q, h => one h (fun z => bad_len z)
  | .bin _ e f, q, h => two h (fun z => bad_len z) (fun z => bad_len z)
  | .cmp _ e f, q, h => two h (fun z => bad_len z) (fun z => bad_len z)
  | .lg _ e f, q, h => two h (fun z => bad_len z) (fun z => bad_len z)
  | .ite c e f, q, h => by
    have h : ((c.bad m).map (0 :: ·)).or (((e.bad m).map (1 :: ·)).or ((f.bad m).map (2 :: ·))) = some q := h
    cases hc : c.bad m with
    | some z =>
      rw [hc] at h
      have h : 0 :: z = q := Option.some.inj h
      obtain ⟨b1, b2⟩ := bad_len hc
      rw [← h]
      exact ⟨by simp only [List.length_cons, Nd.size]; omega, fun i hi => by rcases List.mem_cons.mp hi with rfl | hi; omega; exact b2 i hi⟩
    | none =>
      rw [hc] at h
      cases he : e.bad m with
      | some z =>
        rw [he] at h
        have h : 1 :: z = q := Option.some.inj h
        obtain ⟨b1, b2⟩ := bad_len he
        rw [← h]
        exact ⟨by simp only [List.length_cons, Nd.size]; omega, fun i hi => by rcases List.mem_cons.mp hi with rfl | hi; omega; exact b2 i hi⟩
      | none =>
        rw [he] at h
        cases hf : f.bad m with
        | some z =>
          rw [hf] at h
          have h : 2 :: z = q := Option.some.inj h
          obtain ⟨b1, b2⟩ := bad_len hf
          rw [← h]
          exact ⟨by simp only [List.length_cons, Nd.size]; omega, fun i hi => by rcases List.mem_cons.mp hi with rfl | hi; omega; exact b2 i hi⟩
        | none => rw [hf] at h; exact nomatch h
where
  one {e : Nd} {q : List Nat} (h : (e.bad m).map (0 :: ·) = some q) (ih : ∀ {z : List Nat}, e.bad m = some z → z.length < e.size ∧ ∀ i ∈ z, i ≤ 2) : q.length < 1 + e.size ∧ ∀ i ∈ q, i ≤ 2 := by
    cases he : e.bad m with
    | none => rw [he] at h; exact nomatch h
    | some z =>
      rw [he] at h
      have h : 0 :: z = q := Option.some.inj h
      obtain ⟨b1, b2⟩ := ih he
      rw [← h]
      exact ⟨by simp only [List.length_cons]; omega, fun i hi => by rcases List.mem_cons.mp hi with rfl | hi; omega; exact b2 i hi⟩
  two {e f : Nd} {q : List Nat} (h : ((e.bad m).map (0 :: ·)).or ((f.bad m).map (1 :: ·)) = some q) (ih : ∀ {z : List Nat}, e.bad m = some z → z.length < e.size ∧ ∀ i ∈ z, i ≤ 2) (jh : ∀ {z : List Nat}, f.bad m = some z → z.length < f.size ∧ ∀ i ∈ z, i ≤ 2) : q.length < 1 + e.size + f.size ∧ ∀ i ∈ q, i ≤ 2 := by
    cases he : e.bad m with
    | some z =>
      rw [he] at h
      have h : 0 :: z = q := Option.some.inj h
      obtain ⟨b1, b2⟩ := ih he
      rw [← h]
      exact ⟨by simp only [List.length_cons]; omega, fun i hi => by rcases List.mem_cons.mp hi with rfl | hi; omega; exact b2 i hi⟩
    | none =>
      rw [he] at h
      cases hf : f.bad m with
      | some z =>
        rw [hf] at h
        have h : 1 :: z = q := Option.some.inj h
        obtain ⟨b1, b2⟩ := jh hf
        rw [← h]
        exact ⟨by simp only [List.length_cons]; omega, fun i hi => by rcases List.mem_cons.mp hi with rfl | hi; omega; exact b2 i hi⟩
      | none => rw [hf] at h; exact nomatch h
theorem admV_in {m : Md} {rows : List Row} {x : Str} (h : admV m rows = some x) : ∃ w ∈ rows, w.name = x := by
  unfold admV at h
  cases hf : rows.find? fun w => !m.rowOk w with
  | none => rw [hf] at h; exact nomatch h
  | some w =>
    rw [hf] at h
    exact ⟨w, List.mem_of_find?_eq_some hf, Option.some.inj h⟩
theorem path_sm : ∀ {q : List Nat}, (∀ i ∈ q, i ≤ 2) → SmAll (q.map fun i => PyData.int (i : Nat))
  | [], _ => trivial
  | i :: q, h => ⟨by have := h i (List.mem_cons_self ..); show ((i : Nat) : Int).natAbs < 2 ^ 140; omega, path_sm fun j hj => h j (List.mem_cons_of_mem _ hj)⟩
theorem path_sz : ∀ q : List Nat, szAll (q.map fun i => PyData.int (i : Nat)) = q.length
  | [] => rfl
  | i :: q => by
    have ih := path_sz q
    simp only [List.map_cons, szAll, szD, ih, List.length_cons]
    omega
theorem path_dep : ∀ q : List Nat, PyData.depthAll (q.map fun i => PyData.int (i : Nat)) = 0
  | [] => rfl
  | i :: q => by
    have ih := path_dep q
    simp only [List.map_cons, PyData.depthAll, PyData.depth, ih]
    rfl
theorem adm_sm {m : Md} {rows : List Row} {nd : Nd} (h : ∀ w ∈ rows, smStr w.name = true) (hs : nd.size ≤ 30) : Sm (admD m rows nd []) ∧ szD (admD m rows nd []) ≤ 40 ∧ (admD m rows nd []).depth ≤ 3 := by
  unfold admD
  cases hv : admV m rows with
  | some x =>
    obtain ⟨w, hw, rfl⟩ := admV_in hv
    exact ⟨⟨sm_str (by decide +kernel), sm_str (h w hw), trivial⟩, by simp [szD, szAll], by simp [PyData.depth, PyData.depthAll]⟩
  | none =>
    cases hb : nd.bad m with
    | none => exact ⟨trivial, by simp [szD], by simp [PyData.depth]⟩
    | some q =>
      obtain ⟨h1, h2⟩ := bad_len hb
      have e1 := path_sz q
      have e2 := path_dep q
      refine ⟨⟨sm_str (by decide +kernel), path_sm h2, trivial⟩, ?_, ?_⟩
      · simp only [List.nil_append, pathD, szD, szAll, e1]
        omega
      · simp only [List.nil_append, pathD, PyData.depth, PyData.depthAll, e2]
        omega
/-! ## data of tuples alone -/
mutual
def TupD : PyData → Prop
  | .tuple xs => TupDs xs
  | .list _ => False
  | .dict _ => False
  | _ => True
def TupDs : List PyData → Prop
  | [] => True
  | x :: xs => TupD x ∧ TupDs xs
end
theorem sqt_upd {K : PySem.W.Frag} {H : Hp} {l a : Addr} {ys xs : List V} {o : HO} (hl : H l = some (.lst ys)) (h : SqT K H a xs) : SqT K (upd H l o) a xs := by
  rcases h with (h | ⟨u, h⟩) | h
  · exact .inl (.inl (by rw [upd_ne (ne_of h hl fun z => by cases z)]; exact h))
  · exact .inl (.inr ⟨u, by rw [upd_ne (ne_of h hl fun z => by cases z)]; exact h⟩)
  · exact .inr h
mutual
theorem dp_upd {K : PySem.W.Frag} {H : Hp} {l : Addr} {ys : List V} {o : HO} (hl : H l = some (.lst ys)) : ∀ (d : PyData) (v : V), TupD d → Dp K H v d → Dp K (upd H l o) v d
  | .none, _, _, h => by cases h; exact .non
  | .bool b, _, _, h => by cases h; exact .bl b
  | .int i, _, _, h => by cases h; exact .int i
  | .str x, _, _, h => by cases h; exact .str x
  | .list _, _, t, _ => t.elim
  | .tuple ds, _, t, h => by
    cases h with
    | tup a b => exact .tup (sqt_upd hl a) (dps_upd hl ds _ t b)
  | .dict _, _, t, _ => t.elim
theorem dps_upd {K : PySem.W.Frag} {H : Hp} {l : Addr} {ys : List V} {o : HO} (hl : H l = some (.lst ys)) : ∀ (ds : List PyData) (vs : List V), TupDs ds → DpAll K H vs ds → DpAll K (upd H l o) vs ds
  | [], _, _, h => by cases h; exact .nil
  | d :: ds, _, t, h => by
    cases h with
    | cons a b => exact .cons (dp_upd hl d _ t.1 a) (dps_upd hl ds _ t.2 b)
end
end Cf

namespace Cf
open PySem PySem.Spec PyProof.Rows L2 Evl
/-! ## the kinds of the nodes -/
def comb (m : Md) : Option Kd → Option Kd → Option Kd
  | some a, some b => some (m.com a b)
  | _, _ => none
def Nd.own (m : Md) (vk : Str → Option Kd) : Nd → Option Kd
  | .var x => vk x
  | .lit n s => m.lit n s
  | .cast k _ => some k
  | .neg e => (e.own m vk).map m.prom
  | .sh _ e _ => (e.own m vk).map m.prom
  | .bin _ e f => comb m (e.own m vk) (f.own m vk)
  | .ite _ e f => comb m (e.own m vk) (f.own m vk)
  | .cmp _ e f => comb m (e.own m vk) (f.own m vk)
  | .nt _ => none
  | .lg _ _ _ => none
def Nd.hasK : Nd → Bool
  | .nt _ => false | .lg _ _ _ => false | _ => true
theorem isE_hasK : ∀ {nd : Nd}, nd.isE = true → nd.hasK = true
  | .var _, _ => rfl | .lit _ _, _ => rfl | .cast _ _, _ => rfl | .neg _, _ => rfl | .bin _ _ _, _ => rfl | .sh _ _ _, _ => rfl | .ite _ _ _, _ => rfl | .cmp _ _ _, _ => rfl
theorem or_none {α : Type} {a b : Option α} (h : a.or b = none) : a = none ∧ b = none := by
  cases a with
  | some _ => exact nomatch h
  | none => exact ⟨rfl, h⟩
theorem map_none {α β : Type} {f : α → β} {a : Option α} (h : a.map f = none) : a = none := by
  cases a with
  | some _ => exact nomatch h
  | none => rfl
theorem badL_none {m : Md} : ∀ {es : List Nd} {k : Nat}, badL m k es = none → ∀ e ∈ es, e.bad m = none
  | e :: es, k, h, x, hx => by
    obtain ⟨h1, h2⟩ := or_none (show ((e.bad m).map (k :: ·)).or (badL m (k + 1) es) = none from h)
    rcases List.mem_cons.mp hx with rfl | hx
    · exact map_none h1
    · exact badL_none h2 x hx
theorem bad_part {m : Md} {nd e : Nd} (h : nd.bad m = none) (he : e ∈ nd.parts) : e.bad m = none := by
  have hl : ∀ n s, nd = .lit n s → m.lit n s ≠ none := fun n s z => by
    subst z
    exact nomatch he
  rw [bad_parts hl] at h
  exact badL_none h e he
theorem own_some {m : Md} {vk : Str → Option Kd} : ∀ {nd : Nd}, nd.wf → nd.bad m = none → (∀ x ∈ nd.vars, ∃ k, vk x = some k) → nd.hasK = true → ∃ k, nd.own m vk = some k
  | .var x, _, _, h, _ => h x (List.mem_cons_self ..)
  | .lit n s, _, h, _, _ => by
    cases hl : m.lit n s with
    | some k => exact ⟨k, hl⟩
    | none =>
      unfold Nd.bad at h
      rw [if_pos hl] at h
      exact nomatch h
  | .cast k _, _, _, _, _ => ⟨k, rfl⟩
  | .neg e, w, h, v, _ => by
    obtain ⟨k, hk⟩ := own_some (nd := e) w.2 (bad_part h (List.mem_cons_self ..)) v (isE_hasK w.1)
    exact ⟨m.prom k, by simp only [Nd.own, hk, Option.map_some]⟩
  | .sh _ e _, w, h, v, _ => by
    obtain ⟨k, hk⟩ := own_some (nd := e) w.2.1 (bad_part h (List.mem_cons_self ..)) v (isE_hasK w.1)
    exact ⟨m.prom k, by simp only [Nd.own, hk, Option.map_some]⟩
  | .bin _ e f, w, h, v, _ => by
    obtain ⟨k, hk⟩ := own_some (nd := e) w.2.2.1 (bad_part h (List.mem_cons_self ..)) (fun x hx => v x (List.mem_append_left _ hx)) (isE_hasK w.1)
    obtain ⟨l, hl⟩ := own_some (nd := f) w.2.2.2 (bad_part h (List.mem_cons_of_mem _ (List.mem_cons_self ..))) (fun x hx => v x (List.mem_append_right _ hx)) (isE_hasK w.2.1)
    exact ⟨m.com k l, by simp only [Nd.own, hk, hl, comb]⟩
  | .cmp _ e f, w, h, v, _ => by
    obtain ⟨k, hk⟩ := own_some (nd := e) w.2.2.1 (bad_part h (List.mem_cons_self ..)) (fun x hx => v x (List.mem_append_left _ hx)) (isE_hasK w.1)
    obtain ⟨l, hl⟩ := own_some (nd := f) w.2.2.2 (bad_part h (List.mem_cons_of_mem _ (List.mem_cons_self ..))) (fun x hx => v x (List.mem_append_right _ hx)) (isE_hasK w.2.1)
    exact ⟨m.com k l, by simp only [Nd.own, hk, hl, comb]⟩
  | .ite c e f, w, h, v, _ => by
    obtain ⟨k, hk⟩ := own_some (nd := e) w.2.2.2.2.1 (bad_part h (List.mem_cons_of_mem _ (List.mem_cons_self ..))) (fun x hx => v x (List.mem_append_right _ (List.mem_append_left _ hx))) (isE_hasK w.2.1)
    obtain ⟨l, hl⟩ := own_some (nd := f) w.2.2.2.2.2 (bad_part h (List.mem_cons_of_mem _ (List.mem_cons_of_mem _ (List.mem_cons_self ..)))) (fun x hx => v x (List.mem_append_right _ (List.mem_append_right _ hx))) (isE_hasK w.2.2.1)
    exact ⟨m.com k l, by simp only [Nd.own, hk, hl, comb]⟩
/-! ## the rows of an expression -/
abbrev RowI := List Nat × Nd × List Nat
def plF (es : List Nd) (n i : Nat) : Nat := n + sumSz (es.take (i + 1)) - 1
def rowsF : Nat → Nd → List Nat → Nat → List RowI
  | 0, _, _, _ => []
  | d + 1, nd, pt, n => (nd.parts.zipIdx.flatMap fun q => rowsF d q.1 (pt ++ [q.2]) (n + sumSz (nd.parts.take q.2))) ++ [(pt, nd, (List.range nd.parts.length).map (plF nd.parts n))]
theorem flatG_take {α : Type} {g : Nd × Nat → List α} : ∀ (es : List Nd) (k i : Nat) (e : Nd), es[i]? = some e → ((es.take (i + 1)).zipIdx k).flatMap g = ((es.take i).zipIdx k).flatMap g ++ g (e, k + i)
  | x :: es, k, 0, e, h => by
    cases (Option.some.inj h)
    simp
  | x :: es, k, i + 1, e, h => by
    have ih := flatG_take (g := g) es (k + 1) i e h
    rw [show k + 1 + i = k + (i + 1) by omega] at ih
    simp only [List.take_succ_cons, List.zipIdx_cons, List.flatMap_cons, ih, List.append_assoc]
theorem rows_len : ∀ (d : Nat) (nd : Nd) (pt : List Nat) (n : Nat), nd.size ≤ d → (rowsF d nd pt n).length = nd.size
  | 0, nd, _, _, h => by have := size_sum nd; omega
  | d + 1, nd, pt, n, h => by
    have key : ∀ i, i ≤ nd.parts.length → (((nd.parts.take i).zipIdx).flatMap fun q => rowsF d q.1 (pt ++ [q.2]) (n + sumSz (nd.parts.take q.2))).length = sumSz (nd.parts.take i) := by
      intro i
      induction i with
      | zero => intro _; simp [sumSz]
      | succ i ih =>
        intro hi
        have he : nd.parts[i]? = some nd.parts[i] := List.getElem?_eq_getElem (by omega)
        have hz : nd.parts[i].size ≤ d := by
          have h1 := size_sum nd
          have h2 := sum_take nd.parts i _ he
          have h3 := sum_le nd.parts (i + 1)
          omega
        rw [flatG_take _ 0 i _ he, List.length_append, ih (by omega), rows_len d _ _ _ hz, sum_take _ _ _ he]
    have h1 := key nd.parts.length (Nat.le_refl _)
    rw [List.take_length] at h1
    rw [rowsF, List.length_append, h1, size_sum nd]
    simp only [List.length_cons, List.length_nil]
    omega
/-- the flat rows of the first i parts -/
def rowsP (d : Nat) (nd : Nd) (pt : List Nat) (n i : Nat) : List RowI := ((nd.parts.take i).zipIdx).flatMap fun q => rowsF d q.1 (pt ++ [q.2]) (n + sumSz (nd.parts.take q.2))
theorem rowsP_step {d : Nat} {nd : Nd} {pt : List Nat} {n i : Nat} {e : Nd} (h : nd.parts[i]? = some e) : rowsP d nd pt n (i + 1) = rowsP d nd pt n i ++ rowsF d e (pt ++ [i]) (n + sumSz (nd.parts.take i)) := by
  unfold rowsP
  rw [flatG_take _ 0 i _ h, Nat.zero_add]
theorem rowsP_len {d : Nat} {nd : Nd} {pt : List Nat} {n : Nat} (hd : nd.size ≤ d + 1) : ∀ i, i ≤ nd.parts.length → (rowsP d nd pt n i).length = sumSz (nd.parts.take i)
  | 0, _ => by simp [rowsP, sumSz]
  | i + 1, hi => by
    have he : nd.parts[i]? = some nd.parts[i] := List.getElem?_eq_getElem (by omega)
    have hz : nd.parts[i].size ≤ d := by
      have h1 := size_sum nd
      have h2 := sum_take nd.parts i _ he
      have h3 := sum_le nd.parts (i + 1)
      omega
    rw [rowsP_step he, List.length_append, rowsP_len hd i (by omega), rows_len d _ _ _ hz, sum_take _ _ _ he]
theorem rowsF_end {d : Nat} {nd : Nd} {pt : List Nat} {n : Nat} : rowsF (d + 1) nd pt n = rowsP d nd pt n nd.parts.length ++ [(pt, nd, (List.range nd.parts.length).map (plF nd.parts n))] := by
  unfold rowsP
  rw [List.take_length]
  rfl
/-- each row's places are rows before it, its parts' -/
def RowsOk (L : List RowI) : Prop := ∀ (j : Nat) (pt : List Nat) (nd : Nd) (pl : List Nat), L[j]? = some (pt, nd, pl) → pl.length = nd.parts.length ∧ ∀ (i : Nat) (e : Nd), nd.parts[i]? = some e → ∃ x ptx plx, pl[i]? = some x ∧ x < j ∧ L[x]? = some (ptx, e, plx)
theorem RowsOk.add {L : List RowI} {pt : List Nat} {nd : Nd} {pl : List Nat} (h : RowsOk L) (hl : pl.length = nd.parts.length) (hp : ∀ (i : Nat) (e : Nd), nd.parts[i]? = some e → ∃ x ptx plx, pl[i]? = some x ∧ L[x]? = some (ptx, e, plx)) : RowsOk (L ++ [(pt, nd, pl)]) := by
  intro j pt2 nd2 pl2 hj
  by_cases hlt : j < L.length
  · rw [List.getElem?_append_left hlt] at hj
    obtain ⟨h1, h2⟩ := h j pt2 nd2 pl2 hj
    refine ⟨h1, fun i e he => ?_⟩
    obtain ⟨x, ptx, plx, a, b, c⟩ := h2 i e he
    exact ⟨x, ptx, plx, a, b, by rw [List.getElem?_append_left (by omega)]; exact c⟩
  · rw [List.getElem?_append_right (by omega)] at hj
    have hz : j - L.length = 0 := by
      have := (List.getElem?_eq_some_iff.mp hj).1
      simp at this
      omega
    rw [hz] at hj
    cases (Option.some.inj hj)
    refine ⟨hl, fun i e he => ?_⟩
    obtain ⟨x, ptx, plx, a, c⟩ := hp i e he
    have hx := (List.getElem?_eq_some_iff.mp c).1
    exact ⟨x, ptx, plx, a, by omega, by rw [List.getElem?_append_left hx]; exact c⟩
theorem rows_ok : ∀ (d : Nat) (nd : Nd) (pt : List Nat) (pre : List RowI), nd.size ≤ d → RowsOk pre → RowsOk (pre ++ rowsF d nd pt pre.length)
  | 0, nd, _, _, h, _ => by have := size_sum nd; omega
  | d + 1, nd, pt, pre, h, hp => by
    have hz : ∀ {i : Nat} {e : Nd}, nd.parts[i]? = some e → e.size ≤ d := fun {i e} he => by
      have h1 := size_sum nd
      have h2 := sum_take nd.parts i _ he
      have h3 := sum_le nd.parts (i + 1)
      omega
    have key : ∀ i, i ≤ nd.parts.length → RowsOk (pre ++ rowsP d nd pt pre.length i) := by
      intro i
      induction i with
      | zero => intro _; simpa [rowsP] using hp
      | succ i ih =>
        intro hi
        have he : nd.parts[i]? = some nd.parts[i] := List.getElem?_eq_getElem (by omega)
        have h1 := rows_ok d nd.parts[i] (pt ++ [i]) _ (hz he) (ih (by omega))
        rw [List.length_append, rowsP_len (by omega) i (by omega), List.append_assoc] at h1
        rw [rowsP_step he]
        exact h1
    have last : ∀ i e, nd.parts[i]? = some e → ∃ ptx plx, (pre ++ rowsP d nd pt pre.length nd.parts.length)[plF nd.parts pre.length i]? = some (ptx, e, plx) := by
      have lk : ∀ c, c ≤ nd.parts.length → ∀ i e, i < c → nd.parts[i]? = some e → ∃ ptx plx, (pre ++ rowsP d nd pt pre.length c)[plF nd.parts pre.length i]? = some (ptx, e, plx) := by
        intro c
        induction c with
        | zero => intro _ i e hi; omega
        | succ c ih =>
          intro hc i e hi he
          have hec : nd.parts[c]? = some nd.parts[c] := List.getElem?_eq_getElem (by omega)
          have hl := rowsP_len (d := d) (pt := pt) (n := pre.length) (by omega) c (by omega)
          rw [rowsP_step hec, ← List.append_assoc]
          by_cases hic : i < c
          · obtain ⟨ptx, plx, z⟩ := ih (by omega) i e hic he
            have := (List.getElem?_eq_some_iff.mp z).1
            exact ⟨ptx, plx, by rw [List.getElem?_append_left this]; exact z⟩
          · have : i = c := by omega
            subst this
            rw [hec] at he
            cases (Option.some.inj he)
            have hs := hz hec
            have h2 := sum_take nd.parts i _ hec
            have h4 := size_sum nd.parts[i]
            have hlen : (pre ++ rowsP d nd pt pre.length i).length = pre.length + sumSz (nd.parts.take i) := by rw [List.length_append, hl]
            match d, hs, hl, hlen with
            | 0, hs, _, _ => omega
            | d + 1, hs, hl, hlen =>
              rw [rowsF_end, ← List.append_assoc]
              have l2 := rowsP_len (d := d) (pt := pt ++ [i]) (n := pre.length + sumSz (nd.parts.take i)) (by omega) nd.parts[i].parts.length (Nat.le_refl _)
              rw [List.take_length] at l2
              have l3 : ((pre ++ rowsP (d + 1) nd pt pre.length i) ++ rowsP d nd.parts[i] (pt ++ [i]) (pre.length + sumSz (nd.parts.take i)) nd.parts[i].parts.length).length = plF nd.parts pre.length i := by
                rw [List.length_append, hlen, l2]
                unfold plF
                omega
              refine ⟨pt ++ [i], (List.range nd.parts[i].parts.length).map (plF nd.parts[i].parts (pre.length + sumSz (nd.parts.take i))), ?_⟩
              rw [← l3, List.getElem?_append_right (Nat.le_refl _), Nat.sub_self]
              rfl
      exact fun i e he => lk _ (Nat.le_refl _) i e (List.getElem?_eq_some_iff.mp he).1 he
    rw [rowsF_end, ← List.append_assoc]
    refine (key _ (Nat.le_refl _)).add (by simp) fun i e he => ?_
    obtain ⟨ptx, plx, z⟩ := last i e he
    have hi := (List.getElem?_eq_some_iff.mp he).1
    exact ⟨_, ptx, plx, by rw [List.getElem?_map, List.getElem?_range hi]; rfl, z⟩
theorem rows_all {P : Nd → Prop} (hP : ∀ nd e, P nd → e ∈ nd.parts → P e) : ∀ (d : Nat) (nd : Nd) (pt : List Nat) (n : Nat), P nd → ∀ it ∈ rowsF d nd pt n, P it.2.1
  | 0, _, _, _, _, it, h => nomatch h
  | d + 1, nd, pt, n, hn, it, h => by
    rw [rowsF] at h
    rcases List.mem_append.mp h with h | h
    · obtain ⟨q, hq, hi⟩ := List.mem_flatMap.mp h
      have hm := List.mem_zipIdx hq
      exact rows_all hP d q.1 _ _ (hP nd q.1 hn (by rw [hm.2.2]; exact List.getElem_mem _)) it hi
    · simp only [List.mem_cons, List.not_mem_nil, or_false] at h
      rw [h]
      exact hn
theorem sqt_bu {K : PySem.W.Frag} {u a : Addr} {H H1 : Hp} {ys xs : List V} (e : Bu u H H1) (hu : H u = some (.lst ys)) (h : SqT K H a xs) : SqT K H1 a xs := by
  rcases h with (h | ⟨o, h⟩) | h
  · exact .inl (.inl (e _ _ (ne_of h hu fun z => by cases z) h))
  · exact .inl (.inr ⟨o, e _ _ (ne_of h hu fun z => by cases z) h⟩)
  · exact .inr h
theorem TupK.ofBu {l : Addr} {ys : List V} {H H1 : Hp} (e : Bu l H H1) (hl : H l = some (.lst ys)) : TupK H H1 := fun b xs h => e b _ (fun z => by rw [z, hl] at h; exact nomatch h) h
def natsV (ns : List Nat) : List V := ns.map fun x => V.int (x : Nat)
/-- a list of triples (path, node, places); no places list is of X -/
def RowsAt (K : PySem.W.Frag) (H : Hp) (l : Addr) (its : List RowI) (X : Addr → Prop) : Prop := ∃ ps : List Addr, H l = some (.lst (ps.map V.ref)) ∧ ps.length = its.length ∧ ∀ (j : Nat) (it : RowI), its[j]? = some it → ∃ p t q r, ps[j]? = some p ∧ H p = some (.tup [.ref t, .ref q, .ref r]) ∧ SqT K H t (pathV it.1) ∧ TreeAt H q it.2.1 ∧ H r = some (.lst (natsV it.2.2)) ∧ ¬ X r ∧ r ≠ l
theorem some_ex {H H' : Hp} {x : Addr} (e : Ex H H') (h : H x ≠ none) : H' x ≠ none := by
  cases hq : H x with
  | none => exact absurd hq h
  | some o => rw [e _ _ hq]; exact fun z => nomatch z
theorem RowsAt.ex {K : PySem.W.Frag} {H H' : Hp} {l : Addr} {its : List RowI} {X : Addr → Prop} (h : RowsAt K H l its X) (e : Ex H H') : RowsAt K H' l its X := by
  obtain ⟨ps, a, b, c⟩ := h
  refine ⟨ps, e _ _ a, b, fun j it hj => ?_⟩
  obtain ⟨p, t, q, r, z1, z2, z3, z4, z5, z6⟩ := c j it hj
  exact ⟨p, t, q, r, z1, e _ _ z2, ex_t e z3, z4.ex e, e _ _ z5, z6⟩
/-- another list changes -/
theorem RowsAt.bu {K : PySem.W.Frag} {H H' : Hp} {l u : Addr} {its : List RowI} {X : Addr → Prop} {ys : List V} (h : RowsAt K H l its X) (hu : H u = some (.lst ys)) (nu : u ≠ l) (hX : X u) (e : Bu u H H') : RowsAt K H' l its X := by
  obtain ⟨ps, a, b, c⟩ := h
  refine ⟨ps, e _ _ (Ne.symm nu) a, b, fun j it hj => ?_⟩
  obtain ⟨p, t, q, r, z1, z2, z3, z4, z5, z6, z7⟩ := c j it hj
  exact ⟨p, t, q, r, z1, e _ _ (fun z => by rw [z, hu] at z2; exact nomatch z2) z2, sqt_bu e hu z3, z4.tk (TupK.ofBu e hu), e _ _ (fun z => z6 (by rw [z]; exact hX)) z5, z6, z7⟩
theorem RowsAt.sub {K : PySem.W.Frag} {H : Hp} {l : Addr} {its : List RowI} {X Y : Addr → Prop} (h : RowsAt K H l its X) (s : ∀ r, H r ≠ none → ¬ X r → ¬ Y r) : RowsAt K H l its Y := by
  obtain ⟨ps, a, b, c⟩ := h
  refine ⟨ps, a, b, fun j it hj => ?_⟩
  obtain ⟨p, t, q, r, z1, z2, z3, z4, z5, z6, z7⟩ := c j it hj
  exact ⟨p, t, q, r, z1, z2, z3, z4, z5, s r (by rw [z5]; exact fun z => nomatch z) z6, z7⟩
/-- a row more -/
theorem RowsAt.add {K : PySem.W.Frag} {H : Hp} {l p t q r : Addr} {its : List RowI} {X : Addr → Prop} {pt : List Nat} {nd : Nd} {pl : List Nat} {ys : List V} (h : RowsAt K H l its X) (hl : H l = some (.lst ys)) (hp : H p = some (.tup [.ref t, .ref q, .ref r])) (ht : SqT K H t (pathV pt)) (hT : TreeAt H q nd) (hr : H r = some (.lst (natsV pl))) (hX : ¬ X r) (nr : r ≠ l) :
    RowsAt K (upd H l (.lst (ys ++ [.ref p]))) l (its ++ [(pt, nd, pl)]) X := by
  obtain ⟨ps, a, b, c⟩ := h
  rw [a] at hl
  have e := HO.lst.inj (Option.some.inj hl)
  subst e
  have tU : TupK H (upd H l (.lst (ps.map V.ref ++ [.ref p]))) := TupK.upd a fun xs z => nomatch z
  refine ⟨ps ++ [p], by rw [upd_same, List.map_append]; rfl, by rw [List.length_append, List.length_append, b]; rfl, fun j it hj => ?_⟩
  by_cases hjl : j < its.length
  · rw [List.getElem?_append_left hjl] at hj
    obtain ⟨p2, t2, q2, r2, z1, z2, z3, z4, z5, z6, z7⟩ := c j it hj
    exact ⟨p2, t2, q2, r2, by rw [List.getElem?_append_left (by omega)]; exact z1, tU _ _ z2, sqt_upd a z3, z4.tk tU, by rw [upd_ne z7]; exact z5, z6, z7⟩
  · rw [List.getElem?_append_right (by omega)] at hj
    have hz : j - its.length = 0 := by
      have := (List.getElem?_eq_some_iff.mp hj).1
      simp at this
      omega
    rw [hz] at hj
    cases (Option.some.inj hj)
    exact ⟨p, t, q, r, by rw [List.getElem?_append_right (by omega), b, hz]; rfl, tU _ _ hp, sqt_upd a ht, hT.tk tU, by rw [upd_ne nr]; exact hr, hX, nr⟩
def spAddRows (K : PySem.W.Frag) (d : Nat) : Sp := fun vs H Q _ => ∃ l t p nd pt its X, vs = [.ref l, .ref t, .ref p] ∧ TreeAt H p nd ∧ nd.size ≤ d ∧ nd.size ≤ 60 ∧ SqT K H t (pathV pt) ∧ pt.length + nd.size ≤ 100 ∧ its.length + nd.size ≤ 1000 ∧ RowsAt K H l its X ∧ (∀ x, X x → H x ≠ none) ∧
  ∀ H', Bu l H H' → RowsAt K H' l (its ++ rowsF d nd pt its.length) X → Q (.int ((its.length + nd.size - 1 : Nat) : Int)) H'
def spRows (K : PySem.W.Frag) : Sp := fun vs H Q _ => ∃ p nd X, vs = [.ref p] ∧ TreeAt H p nd ∧ nd.size ≤ 30 ∧ (∀ x, X x → H x ≠ none) ∧ ∀ l H', H l = none → Ex H H' → RowsAt K H' l (rowsF 30 nd [] 0) X → Q (.ref l) H'
end Cf

namespace Cf
open PySem PySem.Spec PyProof.Rows L2 Evl
/-! ## kinds by name -/
def kindL (rows : List Row) : List (Key × V) := rows.map fun w => (.inr w.name, w.kind.v)
def vkOf (rows : List Row) (x : Str) : Option Kd := (rows.find? fun w => decide (w.name = x)).map Row.kind
theorem kind_val (x : Str) : ∀ rows : List Row, valV (kindL rows) (.inr x) = (vkOf rows x).map Kd.v
  | [] => rfl
  | w :: rows => by
    have ih := kind_val x rows
    unfold valV kindL vkOf at ih ⊢
    rw [List.map_cons, List.find?_cons, List.find?_cons]
    by_cases h : w.name = x
    · rw [decide_eq_true h, decide_eq_true (by rw [h])]
      rfl
    · rw [decide_eq_false h, decide_eq_false (fun z => h (Sum.inr.inj z))]
      exact ih
theorem vk_none {rows : List Row} {x : Str} (h : x ∉ rows.map Row.name) : vkOf rows x = none := by
  unfold vkOf
  rw [List.find?_eq_none.mpr fun w hw => by
    rw [decide_eq_true_iff]
    exact fun z => h (List.mem_map.mpr ⟨w, hw, z⟩)]
  rfl
theorem vk_some {rows : List Row} {x : Str} (h : x ∈ rows.map Row.name) : ∃ k, vkOf rows x = some k := by
  unfold vkOf
  cases hf : rows.find? fun w => decide (w.name = x) with
  | some w => exact ⟨w.kind, rfl⟩
  | none =>
    obtain ⟨w, hw, e⟩ := List.mem_map.mp h
    exact absurd (decide_eq_true e) (by simpa using List.find?_eq_none.mp hf w hw)
theorem kind_put {rows : List Row} {w : Row} (h : w.name ∉ rows.map Row.name) : putK (kindL rows) (.inr w.name) w.kind.v = kindL (rows ++ [w]) := by
  unfold putK
  rw [valV_any, kind_val, vk_none h]
  unfold kindL
  rw [List.map_append]
  rfl
def spKBN : Sp := fun vs H Q _ => ∃ l rows, vs = [.ref l] ∧ VarsAt H l rows ∧ rows.length ≤ 100 ∧ (rows.map Row.name).Nodup ∧ ∀ d H', H d = none → Ex H H' → H' d = some (.dK (kindL rows)) → Q (.ref d) H'
theorem ev_dgetV {σ : L2.St} {H : Hp} {ta tk : TE} {bg : Addr} {kvs : List (Key × V)} {k : Str} {v : V} (ha : Ev ta σ H (.ref bg)) (hk : Ev tk σ H (.str k)) (h : H bg = some (.dK kvs)) (hv : valV kvs (.inr k) = some v) : Ev (tDGet ta tk) σ H v := fun H1 e Q q =>
  ha H1 e _ fun H2 e2 => hk H2 (e.trans e2) _ fun H3 e3 => ⟨bg, v, rfl, by
    have g := DGet.k (k := .inr k) (e3 _ _ (e2 _ _ (e _ _ h)))
    rw [hv] at g
    exact g, q H3 (e2.trans e3)⟩
/-! ## a node's kind -/
def KdOk (m : Md) (rows : List Row) (nd : Nd) : Prop := nd.wf ∧ nd.bad m = none ∧ ∀ x ∈ nd.vars, ∃ k, vkOf rows x = some k
theorem KdOk.part {m : Md} {rows : List Row} {nd e : Nd} (h : KdOk m rows nd) (he : e ∈ nd.parts) : KdOk m rows e :=
  ⟨(parts_wf h.1 e he).1, bad_part h.2.1 he, fun x hx => h.2.2 x (parts_vars he x hx)⟩
theorem KdOk.some {m : Md} {rows : List Row} {nd : Nd} (h : KdOk m rows nd) (hk : nd.hasK = true) : ∃ k, nd.own m (vkOf rows) = .some k := own_some h.1 h.2.1 h.2.2 hk
def ownV (m : Md) (rows : List Row) (nd : Nd) : V := optV (nd.own m (vkOf rows))
def preOwn (K : PySem.W.Frag) : List V → Hp → V → Prop := fun vs H v => ∃ sch nm q ol m rows nd, vs = [.ref sch, .ref nm, .ref q, .ref ol] ∧ AtM K H sch m ∧ m.Ok ∧ H nm = some (.dK (kindL rows)) ∧ TreeAt H q nd ∧ KdOk m rows nd ∧ H ol = some (.lst (nd.parts.map (ownV m rows))) ∧ v = ownV m rows nd
theorem spOwn {K : PySem.W.Frag} {H : Hp} {sch nm q ol : Addr} {m : Md} {rows : List Row} {nd : Nd} (hm : AtM K H sch m) (ho : m.Ok) (hn : H nm = some (.dK (kindL rows))) (hT : TreeAt H q nd) (hk : KdOk m rows nd) (hl : H ol = some (.lst (nd.parts.map (ownV m rows)))) : SpV (PV (preOwn K)) [.ref sch, .ref nm, .ref q, .ref ol] H (ownV m rows nd) :=
  PV.sp fun H1 e => ⟨sch, nm, q, ol, m, rows, nd, rfl, hm.ex e, ho, e _ _ hn, hT.ex e, hk, e _ _ hl, rfl⟩
theorem own_prom : ∀ {nd : Nd}, nd.wf → inV (.str nd.word) [.str "neg", .str "shl", .str "shr"] = true → ∃ e, nd.parts = [e] ∧ e.isE = true ∧ ∀ (m : Md) (vk : Str → Option Kd), nd.own m vk = (e.own m vk).map m.prom
  | .neg e, w, _ => ⟨e, rfl, w.1, fun _ _ => rfl⟩
  | .sh _ e _, w, _ => ⟨e, rfl, w.1, fun _ _ => rfl⟩
  | .var _, _, h => absurd h (by show ¬ (inV (.str "var") _ = true); decide)
  | .lit _ _, _, h => absurd h (by show ¬ (inV (.str "lit") _ = true); decide)
  | .cast _ _, _, h => absurd h (by show ¬ (inV (.str "cast") _ = true); decide)
  | .ite _ _ _, _, h => absurd h (by show ¬ (inV (.str "if") _ = true); decide)
  | .nt _, _, h => absurd h (by show ¬ (inV (.str "not") _ = true); decide)
  | .bin .add _ _, _, h => absurd h (by show ¬ (inV (.str "add") _ = true); decide)
  | .bin .sub _ _, _, h => absurd h (by show ¬ (inV (.str "sub") _ = true); decide)
  | .bin .mul _ _, _, h => absurd h (by show ¬ (inV (.str "mul") _ = true); decide)
  | .cmp true _ _, _, h => absurd h (by show ¬ (inV (.str "less") _ = true); decide)
  | .cmp false _ _, _, h => absurd h (by show ¬ (inV (.str "most") _ = true); decide)
  | .lg true _ _, _, h => absurd h (by show ¬ (inV (.str "and") _ = true); decide)
  | .lg false _ _, _, h => absurd h (by show ¬ (inV (.str "or") _ = true); decide)
theorem own_no : ∀ {nd : Nd}, inV (.str nd.word) [.str "not", .str "and", .str "or"] = true → ∀ (m : Md) (vk : Str → Option Kd), nd.own m vk = none
  | .nt _, _ => fun _ _ => rfl
  | .lg _ _ _, _ => fun _ _ => rfl
  | .neg _, h => absurd h (by show ¬ (inV (.str "neg") _ = true); decide)
  | .sh true _ _, h => absurd h (by show ¬ (inV (.str "shl") _ = true); decide)
  | .sh false _ _, h => absurd h (by show ¬ (inV (.str "shr") _ = true); decide)
  | .var _, h => absurd h (by show ¬ (inV (.str "var") _ = true); decide)
  | .lit _ _, h => absurd h (by show ¬ (inV (.str "lit") _ = true); decide)
  | .cast _ _, h => absurd h (by show ¬ (inV (.str "cast") _ = true); decide)
  | .ite _ _ _, h => absurd h (by show ¬ (inV (.str "if") _ = true); decide)
  | .bin .add _ _, h => absurd h (by show ¬ (inV (.str "add") _ = true); decide)
  | .bin .sub _ _, h => absurd h (by show ¬ (inV (.str "sub") _ = true); decide)
  | .bin .mul _ _, h => absurd h (by show ¬ (inV (.str "mul") _ = true); decide)
  | .cmp true _ _, h => absurd h (by show ¬ (inV (.str "less") _ = true); decide)
  | .cmp false _ _, h => absurd h (by show ¬ (inV (.str "most") _ = true); decide)
theorem own_comb : ∀ {nd : Nd}, nd.wf → nd.word ≠ "var" → nd.word ≠ "lit" → nd.word ≠ "cast" → inV (.str nd.word) [.str "neg", .str "shl", .str "shr"] = false → inV (.str nd.word) [.str "not", .str "and", .str "or"] = false →
    ∃ e f, (nd.parts = [e, f] ∨ ∃ c, nd.parts = [c, e, f]) ∧ e.isE = true ∧ f.isE = true ∧ ∀ (m : Md) (vk : Str → Option Kd), nd.own m vk = comb m (e.own m vk) (f.own m vk)
  | .bin _ e f, w, _, _, _, _, _ => ⟨e, f, .inl rfl, w.1, w.2.1, fun _ _ => rfl⟩
  | .cmp _ e f, w, _, _, _, _, _ => ⟨e, f, .inl rfl, w.1, w.2.1, fun _ _ => rfl⟩
  | .ite c e f, w, _, _, _, _, _ => ⟨e, f, .inr ⟨c, rfl⟩, w.2.1, w.2.2.1, fun _ _ => rfl⟩
  | .var _, _, h, _, _, _, _ => absurd rfl h
  | .lit _ _, _, _, h, _, _, _ => absurd rfl h
  | .cast _ _, _, _, _, h, _, _ => absurd rfl h
  | .neg _, _, _, _, _, h, _ => absurd h (by show ¬ (inV (.str "neg") _ = false); decide)
  | .sh true _ _, _, _, _, _, h, _ => absurd h (by show ¬ (inV (.str "shl") _ = false); decide)
  | .sh false _ _, _, _, _, _, h, _ => absurd h (by show ¬ (inV (.str "shr") _ = false); decide)
  | .nt _, _, _, _, _, _, h => absurd h (by show ¬ (inV (.str "not") _ = false); decide)
  | .lg true _ _, _, _, _, _, _, h => absurd h (by show ¬ (inV (.str "and") _ = false); decide)
  | .lg false _ _, _, _, _, _, _, h => absurd h (by show ¬ (inV (.str "or") _ = false); decide)
theorem word_cast : ∀ {nd : Nd}, nd.word = "cast" → ∃ k e, nd = .cast k e
  | .cast k e, _ => ⟨k, e, rfl⟩
  | .var _, h => absurd h (by show ("var" : Str) ≠ "cast"; decide)
  | .lit _ _, h => absurd h (by show ("lit" : Str) ≠ "cast"; decide)
  | .bin .add _ _, h => absurd h (by show ("add" : Str) ≠ "cast"; decide)
  | .bin .sub _ _, h => absurd h (by show ("sub" : Str) ≠ "cast"; decide)
  | .bin .mul _ _, h => absurd h (by show ("mul" : Str) ≠ "cast"; decide)
  | .sh true _ _, h => absurd h (by show ("shl" : Str) ≠ "cast"; decide)
  | .sh false _ _, h => absurd h (by show ("shr" : Str) ≠ "cast"; decide)
  | .cmp true _ _, h => absurd h (by show ("less" : Str) ≠ "cast"; decide)
  | .cmp false _ _, h => absurd h (by show ("most" : Str) ≠ "cast"; decide)
  | .lg true _ _, h => absurd h (by show ("and" : Str) ≠ "cast"; decide)
  | .lg false _ _, h => absurd h (by show ("or" : Str) ≠ "cast"; decide)
  | .neg _, h => absurd h (by show ("neg" : Str) ≠ "cast"; decide)
  | .ite _ _ _, h => absurd h (by show ("if" : Str) ≠ "cast"; decide)
  | .nt _, h => absurd h (by show ("not" : Str) ≠ "cast"; decide)
/-- [e for x in xs], e a value that changes nothing -/
theorem el_lcLA {K : PySem.W.Frag} {te : TE} {tl : TE} {σ : L2.St} {H : Hp} {j : Nat} {vs : List Nat} {a : Addr} {xs : List V} (v : Nat → V) (h : Ev tl σ H (.ref a)) (hx : SqL K H a xs) (hz : xs.length ≤ 40000) (hw : ∀ x, wipe ((wipe σ vs).set j (some x)) vs = wipe σ vs)
    (he : ∀ (i : Nat) (x : V) H1, Ex H H1 → xs[i]? = some x → Ev te ((wipe σ vs).set j (some x)) H1 (v i)) : EvL (tLc (iList K tl) (gName j) tYes te vs) σ H (given xs.length (fun _ => true) v) := fun H0 e Q q => h H0 e _ fun H1 e1 => ⟨a, rfl, ⟨_, ex_l (e.trans e1) hx⟩, fun Dl hD =>
  lc_it walk_list (Cw H1 (fun _ => true) v Dl) ⟨hD, Ex.new hD, upd_same⟩ (fun i G _ p => ex_l ((e.trans e1).trans p.2.1) hx) (fun i x G G' hi p y => by
    obtain ⟨rfl, hc⟩ := y
    exact ⟨hw _, cw_turn p (by omega) (fun H3 e3 Q q => q H3 (Ex.refl H3)) (fun hf => he i x H1 (e.trans e1) hc)⟩) (fun G p => q Dl G (fresh_back e1 p.1) (e1.trans p.2.1) p.2.2)⟩
def spKinds (K : PySem.W.Frag) : Sp := fun vs H Q _ => ∃ sch nm l m rows its X, vs = [.ref sch, .ref nm, .ref l] ∧ AtM K H sch m ∧ m.Ok ∧ H nm = some (.dK (kindL rows)) ∧ RowsAt K H l its X ∧ RowsOk its ∧ (∀ it ∈ its, KdOk m rows it.2.1) ∧ its.length ≤ 1000 ∧
  ∀ kl H', H kl = none → Ex H H' → H' kl = some (.lst (its.map fun it => ownV m rows it.2.1)) → Q (.ref kl) H'
end Cf

namespace Cf
open PySem PySem.Spec PyProof.Rows L2 Evl
theorem adm_cases (m : Md) (rows : List Row) (nd : Nd) (pt : List Nat) : (admD m rows nd pt = .none ∧ admV m rows = none ∧ nd.bad m = none) ∨ ∃ ds, admD m rows nd pt = .tuple ds := by
  unfold admD
  cases admV m rows with
  | some x => exact .inr ⟨_, rfl⟩
  | none =>
    cases nd.bad m with
    | some q => exact .inr ⟨_, rfl⟩
    | none => exact .inl ⟨rfl, rfl, rfl⟩
theorem dp_non {K : PySem.W.Frag} {H : Hp} {v : V} (h : Dp K H v .none) : v = .non := by cases h; rfl
theorem dp_tuple {K : PySem.W.Frag} {H : Hp} {v : V} {ds : List PyData} (h : Dp K H v (.tuple ds)) : ∃ a, v = .ref a := by cases h; exact ⟨_, rfl⟩
/-- what it raises stands and is shown so -/
def OutD (K : PySem.W.Frag) (C : Addr) (d : PyData) (H : Hp) (E : XK) : Prop := ∀ v H', Ex H H' → Dp K H' v d → Out C v H' E
def spCA (K : PySem.W.Frag) (C : Addr) : Sp := fun vs H Q E => ∃ sch l p m rows nd, vs = [.ref sch, .ref l, .ref p] ∧ AtM K H sch m ∧ m.Ok ∧ VarsAt H l rows ∧ TreeAt H p nd ∧ nd.wf ∧ nd.size ≤ 30 ∧ (admD m rows nd [] = .none → ∀ H', Ex H H' → Q .non H') ∧ (admD m rows nd [] ≠ .none → OutD K C (admD m rows nd []) H E)
/-- the type of an expression, None for a condition -/
def tyV (m : Md) (rows : List Row) (nd : Nd) : V := if nd.isE = true then ownV m rows nd else .non
/-- expression and variables are right -/
structure Right (K : PySem.W.Frag) (H : Hp) (sch l p : Addr) (m : Md) (rows : List Row) (nd : Nd) : Prop where
  hm : AtM K H sch m
  ho : m.Ok
  hV : VarsAt H l rows
  hz : rows.length ≤ 100
  hnm : ∀ w ∈ rows, nameOk w.name = true
  hnd : (rows.map Row.name).Nodup
  hle : ∀ w ∈ rows, w.low ≤ w.high
  hT : TreeAt H p nd
  hw : nd.wf
  hs : nd.size ≤ 30
  hv : ∀ y ∈ nd.vars, y ∈ rows.map Row.name
  hvn : nd.vars.Nodup
theorem Right.ex {K : PySem.W.Frag} {H H' : Hp} {sch l p : Addr} {m : Md} {rows : List Row} {nd : Nd} (h : Right K H sch l p m rows nd) (e : Ex H H') : Right K H' sch l p m rows nd :=
  ⟨h.hm.ex e, h.ho, h.hV.ex e, h.hz, h.hnm, h.hnd, h.hle, h.hT.ex e, h.hw, h.hs, h.hv, h.hvn⟩
def spType (K : PySem.W.Frag) (C : Addr) : Sp := fun vs H Q E => ∃ sch l p m rows nd, vs = [.ref sch, .ref l, .ref p] ∧ Right K H sch l p m rows nd ∧ (admD m rows nd [] = .none → ∀ H', Ex H H' → Q (tyV m rows nd) H') ∧ (admD m rows nd [] ≠ .none → OutD K C (admD m rows nd []) H E)
def optD : Option Kd → PyData
  | none => .none
  | some k => .str k.s
theorem opt_dp {K : PySem.W.Frag} {H : Hp} : ∀ o : Option Kd, Dp K H (optV o) (optD o)
  | none => .non
  | some k => .str k.s
def tyD (m : Md) (rows : List Row) (nd : Nd) : PyData := if nd.isE = true then optD (nd.own m (vkOf rows)) else .none
theorem ty_dp {K : PySem.W.Frag} {H : Hp} {m : Md} {rows : List Row} {nd : Nd} : Dp K H (tyV m rows nd) (tyD m rows nd) := by
  unfold tyV tyD ownV
  split
  · exact opt_dp _
  · exact .non
/-- what the law is told: the error's value, or the type in a list -/
def toldD (m : Md) (rows : List Row) (nd : Nd) : PyData := match admD m rows nd [] with
  | .none => .list [tyD m rows nd]
  | d => d
def spToldT (K : PySem.W.Frag) : Sp := fun vs H Q _ => ∃ sch l p m rows nd, vs = [.ref sch, .ref l, .ref p] ∧ Right K H sch l p m rows nd ∧ ∀ v H', Ex H H' → Dp K H' v (toldD m rows nd) → Q v H'
theorem told_none {m : Md} {rows : List Row} {nd : Nd} (h : admD m rows nd [] = .none) : toldD m rows nd = .list [tyD m rows nd] := by
  unfold toldD
  rw [h]
theorem told_some {m : Md} {rows : List Row} {nd : Nd} (h : admD m rows nd [] ≠ .none) : toldD m rows nd = admD m rows nd [] := by
  rcases adm_cases m rows nd [] with ⟨h2, _⟩ | ⟨ds, h2⟩
  · exact absurd h2 h
  · unfold toldD
    rw [h2]
end Cf
namespace Cf
open PySem PySem.Spec PyProof.Rows L2 Evl
theorem el_lcU {K : PySem.W.Frag} {te : TE} {tl : TE} {σ : L2.St} {H : Hp} {j : Nat} {vs : List Nat} {xs : List V} (v : Nat → V) (h : EvU tl σ H xs) (hz : xs.length ≤ 40000) (hw : ∀ x, wipe ((wipe σ vs).set j (some x)) vs = wipe σ vs)
    (he : ∀ (i : Nat) (x : V) H1, Ex H H1 → xs[i]? = some x → Ev te ((wipe σ vs).set j (some x)) H1 (v i)) : EvL (tLc (iTup K tl) (gName j) tYes te vs) σ H (given xs.length (fun _ => true) v) := fun H0 e Q q => h H0 e _ fun a H1 n1 e1 h1 => ⟨a, rfl, ⟨xs, st_of h1⟩, fun Dl hD =>
  lc_it walk_tup (Cw H1 (fun _ => true) v Dl) ⟨hD, Ex.new hD, upd_same⟩ (fun i G _ p => ex_t p.2.1 (st_of h1)) (fun i x G G' hi p y => by
    obtain ⟨rfl, hc⟩ := y
    exact ⟨hw _, cw_turn p (by omega) (fun H3 e3 Q q => q H3 (Ex.refl H3)) (fun hf => he i x H1 (e.trans e1) hc)⟩) (fun G p => q Dl G (fresh_back e1 p.1) (e1.trans p.2.1) p.2.2)⟩
theorem prom_at {H : Hp} : ∀ {nd : Nd} {p : Addr}, TreeAt H p nd → nd.wf → inV (.str nd.word) [.str "neg", .str "shl", .str "shr"] = true → ∃ xs q e, H p = some (.tup xs) ∧ xs[1]? = some (.ref q) ∧ nd.parts = [e] ∧ TreeAt H q e ∧ e.isE = true ∧ nd.isE = true ∧ ∀ (m : Md) (vk : Str → Option Kd), nd.own m vk = (e.own m vk).map m.prom
  | .neg e, _, ⟨q, h, t⟩, w, _ => ⟨_, q, e, h, rfl, rfl, t, w.1, rfl, fun _ _ => rfl⟩
  | .sh _ e _, _, ⟨q, h, t⟩, w, _ => ⟨_, q, e, h, rfl, rfl, t, w.1, rfl, fun _ _ => rfl⟩
  | .var _, _, _, _, h => absurd h (by show ¬ (inV (.str "var") _ = true); decide)
  | .lit _ _, _, _, _, h => absurd h (by show ¬ (inV (.str "lit") _ = true); decide)
  | .cast _ _, _, _, _, h => absurd h (by show ¬ (inV (.str "cast") _ = true); decide)
  | .ite _ _ _, _, _, _, h => absurd h (by show ¬ (inV (.str "if") _ = true); decide)
  | .nt _, _, _, _, h => absurd h (by show ¬ (inV (.str "not") _ = true); decide)
  | .bin .add _ _, _, _, _, h => absurd h (by show ¬ (inV (.str "add") _ = true); decide)
  | .bin .sub _ _, _, _, _, h => absurd h (by show ¬ (inV (.str "sub") _ = true); decide)
  | .bin .mul _ _, _, _, _, h => absurd h (by show ¬ (inV (.str "mul") _ = true); decide)
  | .cmp true _ _, _, _, _, h => absurd h (by show ¬ (inV (.str "less") _ = true); decide)
  | .cmp false _ _, _, _, _, h => absurd h (by show ¬ (inV (.str "most") _ = true); decide)
  | .lg true _ _, _, _, _, h => absurd h (by show ¬ (inV (.str "and") _ = true); decide)
  | .lg false _ _, _, _, _, h => absurd h (by show ¬ (inV (.str "or") _ = true); decide)
theorem comb_at {H : Hp} : ∀ {nd : Nd} {p : Addr}, TreeAt H p nd → nd.wf → nd.word ≠ "var" → nd.word ≠ "lit" → nd.word ≠ "cast" → nd.isE = true → inV (.str nd.word) [.str "neg", .str "shl", .str "shr"] = false →
    ∃ xs q r e f, H p = some (.tup xs) ∧ cutV xs (some ((xs.length : Int) - 2)) none = [.ref q, .ref r] ∧ HT.sIx xs.length 0 (some ((xs.length : Int) - 2)) ≠ 0 ∧ TreeAt H q e ∧ TreeAt H r f ∧ e ∈ nd.parts ∧ f ∈ nd.parts ∧ e.isE = true ∧ f.isE = true ∧ ∀ (m : Md) (vk : Str → Option Kd), nd.own m vk = comb m (e.own m vk) (f.own m vk)
  | .bin _ e f, _, ⟨q, r, h, t, u⟩, w, _, _, _, _, _ => ⟨_, q, r, e, f, h, rfl, by show HT.sIx 3 0 (some (3 - 2)) ≠ 0; decide, t, u, List.mem_cons_self .., List.mem_cons_of_mem _ (List.mem_cons_self ..), w.1, w.2.1, fun _ _ => rfl⟩
  | .ite c e f, _, ⟨o, q, r, h, s, t, u⟩, w, _, _, _, _, _ => ⟨_, q, r, e, f, h, rfl, by show HT.sIx 4 0 (some (4 - 2)) ≠ 0; decide, t, u, List.mem_cons_of_mem _ (List.mem_cons_self ..), List.mem_cons_of_mem _ (List.mem_cons_of_mem _ (List.mem_cons_self ..)), w.2.1, w.2.2.1, fun _ _ => rfl⟩
  | .cmp _ _ _, _, _, _, _, _, _, h, _ => nomatch h
  | .nt _, _, _, _, _, _, _, h, _ => nomatch h
  | .lg _ _ _, _, _, _, _, _, _, h, _ => nomatch h
  | .var _, _, _, _, h, _, _, _, _ => absurd rfl h
  | .lit _ _, _, _, _, _, h, _, _, _ => absurd rfl h
  | .cast _ _, _, _, _, _, _, h, _, _ => absurd rfl h
  | .neg _, _, _, _, _, _, _, _, h => absurd h (by show ¬ (inV (.str "neg") _ = false); decide)
  | .sh true _ _, _, _, _, _, _, _, _, h => absurd h (by show ¬ (inV (.str "shl") _ = false); decide)
  | .sh false _ _, _, _, _, _, _, _, _, h => absurd h (by show ¬ (inV (.str "shr") _ = false); decide)
def preLab (K : PySem.W.Frag) (d : Nat) : List V → Hp → V → Prop := fun vs H v => ∃ sch nm q m rows nd, vs = [.ref sch, .ref nm, .ref q] ∧ AtM K H sch m ∧ m.Ok ∧ H nm = some (.dK (kindL rows)) ∧ TreeAt H q nd ∧ KdOk m rows nd ∧ nd.size ≤ d ∧ v = tyV m rows nd
theorem spLab {K : PySem.W.Frag} {H : Hp} {sch nm q : Addr} {m : Md} {rows : List Row} {nd : Nd} {d : Nat} (hm : AtM K H sch m) (ho : m.Ok) (hn : H nm = some (.dK (kindL rows))) (hT : TreeAt H q nd) (hk : KdOk m rows nd) (hd : nd.size ≤ d) : SpV (PV (preLab K d)) [.ref sch, .ref nm, .ref q] H (tyV m rows nd) :=
  PV.sp fun H1 e => ⟨sch, nm, q, m, rows, nd, rfl, hm.ex e, ho, e _ _ hn, hT.ex e, hk, hd, rfl⟩
theorem tyV_E {m : Md} {rows : List Row} {nd : Nd} {k : Kd} (h : nd.isE = true) (hk : nd.own m (vkOf rows) = some k) : tyV m rows nd = k.v := by
  unfold tyV ownV
  rw [if_pos h, hk]
  rfl
end Cf
namespace Cf
open PySem PySem.Spec PyProof.Rows L2 Evl
theorem varsL_nodup {es : List Nd} (h : (varsL es).Nodup) {e : Nd} (he : e ∈ es) : e.vars.Nodup := by
  obtain ⟨i, hi⟩ := List.getElem?_of_mem he
  rw [varsL_split hi] at h
  exact (List.nodup_append.mp (List.nodup_append.mp h).2.1).1
theorem part_nodup {nd e : Nd} (h : nd.vars.Nodup) (he : e ∈ nd.parts) : e.vars.Nodup := by
  have hv : ∀ x, nd ≠ .var x := fun x z => by subst z; exact nomatch he
  rw [vars_parts hv] at h
  exact varsL_nodup h he
theorem Right.part {K : PySem.W.Frag} {H : Hp} {sch l p q : Addr} {m : Md} {rows : List Row} {nd e : Nd} (h : Right K H sch l p m rows nd) (he : e ∈ nd.parts) (hT : TreeAt H q e) : Right K H sch l q m rows e :=
  ⟨h.hm, h.ho, h.hV, h.hz, h.hnm, h.hnd, h.hle, hT, (parts_wf h.hw e he).1, by have := (parts_wf h.hw e he).2; have := h.hs; omega, fun y hy => h.hv y (parts_vars he y hy), part_nodup h.hvn he⟩
theorem told_sm {m : Md} {rows : List Row} {nd : Nd} (h : ∀ w ∈ rows, smStr w.name = true) (hs : nd.size ≤ 30) : Sm (toldD m rows nd) ∧ szD (toldD m rows nd) ≤ 60 ∧ (toldD m rows nd).depth ≤ 4 := by
  rcases adm_cases m rows nd [] with ⟨ha, _⟩ | ⟨ds, ha⟩
  · rw [told_none ha]
    have : Sm (tyD m rows nd) ∧ szD (tyD m rows nd) ≤ 10 ∧ (tyD m rows nd).depth ≤ 1 := by
      unfold tyD
      split
      · cases nd.own m (vkOf rows) with
        | none => exact ⟨trivial, by simp [optD, szD], by simp [optD, PyData.depth]⟩
        | some k => exact ⟨sm_str (kd_sm k), by simp [optD, szD], by simp [optD, PyData.depth]⟩
      · exact ⟨trivial, by simp [szD], by simp [PyData.depth]⟩
    obtain ⟨h1, h2, h3⟩ := this
    refine ⟨⟨h1, trivial⟩, ?_, ?_⟩
    · simp only [szD, szAll]
      omega
    · simp only [PyData.depth, PyData.depthAll]
      omega
  · rw [told_some (by rw [ha]; exact fun z => nomatch z)]
    obtain ⟨h1, h2, h3⟩ := adm_sm (m := m) (nd := nd) h hs
    exact ⟨h1, by omega, by omega⟩
theorem told_ref {K : PySem.W.Frag} {H : Hp} {v : V} {m : Md} {rows : List Row} {nd : Nd} (h : Dp K H v (toldD m rows nd)) : ∃ a, v = .ref a := by
  rcases adm_cases m rows nd [] with ⟨ha, _⟩ | ⟨ds, ha⟩
  · rw [told_none ha] at h
    cases h
    exact ⟨_, rfl⟩
  · rw [told_some (by rw [ha]; exact fun z => nomatch z), ha] at h
    exact dp_tuple h
theorem ev_reprD {K : PySem.W.Frag} {σ : L2.St} {H : Hp} {ta : TE} {d : PyData} (ha : ∀ H1, Ex H H1 → ∀ Q : VK, (∀ a H2, Ex H1 H2 → Dp K H2 (.ref a) d → Q (.ref a) H2) → ta σ H1 Q) (hs : Sm d) (hz : szD d ≤ 800) (hp : d.depth ≤ 60) : Ev (tCB (rRepr K) (tCons ta tNil)) σ H (.str d.shown) := fun H1 e Q q =>
  ha H1 e _ fun a H2 e2 hd => ⟨a, d, rfl, hd, (sm_all d hs).1, (sm_all d hs).2.1, sm_len hs hz, hp, q H2 e2⟩
def preRight (K : PySem.W.Frag) (d : Nat) : List V → Hp → V → Prop := fun vs H v => ∃ sch l p m rows nd, vs = [.ref sch, .ref l, .ref p] ∧ Right K H sch l p m rows nd ∧ nd.size ≤ d ∧ (∀ w ∈ rows, smStr w.name = true) ∧ v = .bl true
theorem spRight {K : PySem.W.Frag} {H : Hp} {sch l p : Addr} {m : Md} {rows : List Row} {nd : Nd} {d : Nat} (R : Right K H sch l p m rows nd) (hd : nd.size ≤ d) (hsm : ∀ w ∈ rows, smStr w.name = true) : SpV (PV (preRight K d)) [.ref sch, .ref l, .ref p] H (.bl true) :=
  PV.sp fun H1 e => ⟨sch, l, p, m, rows, nd, rfl, R.ex e, hd, hsm, rfl⟩
theorem given_none (v : Nat → V) (n : Nat) : given n (fun _ => false) v = [] := by
  unfold given
  rw [List.filter_eq_nil_iff.mpr (fun _ _ => by decide)]
  rfl
end Cf
namespace Cf
open PySem PySem.Spec PyProof.Rows L2 Evl
mutual
theorem dp_buK {K : PySem.W.Frag} {u : Addr} {H H1 : Hp} {kvs : List (Key × V)} (hu : H u = some (.dK kvs)) (e : Bu u H H1) : ∀ (d : PyData) (v : V), TupD d → Dp K H v d → Dp K H1 v d
  | .none, _, _, h => by cases h; exact .non
  | .bool b, _, _, h => by cases h; exact .bl b
  | .int i, _, _, h => by cases h; exact .int i
  | .str x, _, _, h => by cases h; exact .str x
  | .list _, _, t, _ => t.elim
  | .tuple ds, _, t, h => by
    cases h with
    | tup a b => exact .tup (sqt_dk e hu a) (dps_buK hu e ds _ t b)
  | .dict _, _, t, _ => t.elim
theorem dps_buK {K : PySem.W.Frag} {u : Addr} {H H1 : Hp} {kvs : List (Key × V)} (hu : H u = some (.dK kvs)) (e : Bu u H H1) : ∀ (ds : List PyData) (vs : List V), TupDs ds → DpAll K H vs ds → DpAll K H1 vs ds
  | [], _, _, h => by cases h; exact .nil
  | d :: ds, _, t, h => by
    cases h with
    | cons a b => exact .cons (dp_buK hu e d _ t.1 a) (dps_buK hu e ds _ t.2 b)
end
end Cf
namespace Cf
open PySem PySem.Spec PyProof.Rows L2 Evl
theorem el_lcLf {K : PySem.W.Frag} {te : TE} {tl : TE} {tt : TT} {σ : L2.St} {H : Hp} {j : Nat} {vs : List Nat} {a : Addr} {xs : List V} (f : Nat → Bool) (v : Nat → V) (h : Ev tl σ H (.ref a)) (hx : SqL K H a xs) (hz : xs.length ≤ 40000) (hw : ∀ x, wipe ((wipe σ vs).set j (some x)) vs = wipe σ vs)
    (ht : ∀ (i : Nat) (x : V) H1, Ex H H1 → xs[i]? = some x → EvT tt ((wipe σ vs).set j (some x)) H1 (f i))
    (he : ∀ (i : Nat) (x : V) H1, Ex H H1 → xs[i]? = some x → f i = true → Ev te ((wipe σ vs).set j (some x)) H1 (v i)) : EvL (tLc (iList K tl) (gName j) tt te vs) σ H (given xs.length f v) := fun H0 e Q q => h H0 e _ fun H1 e1 => ⟨a, rfl, ⟨_, ex_l (e.trans e1) hx⟩, fun Dl hD =>
  lc_it walk_list (Cw H1 f v Dl) ⟨hD, Ex.new hD, upd_same⟩ (fun i G _ p => ex_l ((e.trans e1).trans p.2.1) hx) (fun i x G G' hi p y => by
    obtain ⟨rfl, hc⟩ := y
    exact ⟨hw _, cw_turn p (by omega) (ht i x H1 (e.trans e1) hc) (fun hf => he i x H1 (e.trans e1) hc hf)⟩) (fun G p => q Dl G (fresh_back e1 p.1) (e1.trans p.2.1) p.2.2)⟩
def row0 : Row := ⟨"", .ch, 0, 0⟩
theorem vars_pick {H : Hp} {ps : List Addr} {rows : List Row} {f : Nat → Bool} {l2 : Addr} (hlen : ps.length = rows.length) (c : ∀ (j : Nat) (w : Row), rows[j]? = some w → ∃ p, ps[j]? = some p ∧ H p = some (.tup w.vs)) (hl : H l2 = some (.lst (given rows.length f (fun i => V.ref (ps.getD i 0))))) :
    ∃ rows2, VarsAt H l2 rows2 ∧ List.Sublist (rows2.map Row.name) (rows.map Row.name) ∧ (∀ w ∈ rows2, w ∈ rows) ∧ rows2.length ≤ rows.length := by
  have hr : (List.range rows.length).map (fun i => rows.getD i row0) = rows := by
    apply List.ext_getElem?
    intro j
    rw [List.getElem?_map]
    by_cases hj : j < rows.length
    · rw [List.getElem?_range hj, Option.map_some, List.getD_eq_getElem?_getD, List.getElem?_eq_getElem hj]
      rfl
    · rw [List.getElem?_eq_none (by simpa using hj), List.getElem?_eq_none (by omega)]
      rfl
  have sub : List.Sublist (((List.range rows.length).filter f).map (fun i => rows.getD i row0)) rows := by
    have h := (List.filter_sublist (p := f) (l := List.range rows.length)).map (fun i => rows.getD i row0)
    rw [hr] at h
    exact h
  refine ⟨((List.range rows.length).filter f).map (fun i => rows.getD i row0), ⟨((List.range rows.length).filter f).map (fun i => ps.getD i 0), ?_, ?_, fun j w hj => ?_⟩, sub.map _, fun w hw => sub.subset hw, sub.length_le⟩
  · rw [hl]
    unfold given
    rw [List.map_map]
    rfl
  · rw [List.length_map, List.length_map]
  · rw [List.getElem?_map] at hj
    obtain ⟨i, hi, rfl⟩ := Option.map_eq_some_iff.mp hj
    have hm := List.mem_of_getElem? hi
    have hir : i < rows.length := List.mem_range.mp ((List.mem_filter.mp hm).1)
    have hri : rows[i]? = some rows[i] := List.getElem?_eq_getElem hir
    obtain ⟨p, p1, p2⟩ := c i rows[i] hri
    refine ⟨p, ?_, ?_⟩
    · rw [List.getElem?_map, hi, Option.map_some, List.getD_eq_getElem?_getD, p1]
      rfl
    · rw [List.getD_eq_getElem?_getD, hri]
      exact p2
end Cf

namespace Cf
open PySem PySem.Spec PyProof.Rows L2 Evl
/-! ## the draws out of a pool -/
theorem small_log5 {i : Int} {n : Nat} (hn : 0 < n) (h : i.natAbs < 2 ^ n) (h2 : n ≤ 90000) : CPowW i 5 := ⟨by decide, by decide, by
  have := PySem.Flt.log2_lt_of hn h
  omega⟩
def spPool (K : PySem.W.Frag) : Sp := fun vs H Q _ => ∃ (a : Addr) (ns : List Int) (at_ : Nat), vs = [.ref a, .int (at_ : Nat)] ∧ SqL K H a (ns.map V.int) ∧ ns.length ≤ 63 ∧ at_ ≤ 63 ∧ ∀ r H', H r = none → Ex H H' → Rng H' r 0 → Q (.ref r) H'
def spModel (K : PySem.W.Frag) : Sp := fun vs H Q _ => ∃ r top n, vs = [.ref r, .int top] ∧ 4 ≤ top ∧ top ≤ 128 ∧ n < 2 ^ 50 ∧ Rng H r n ∧
  ∀ p H' m, Bu r H H' → Rng H' r (n + 20) → AtM K H' p m → m.Ok → (m.w4 : Int) ≤ top → Q (.ref p) H'
theorem retx {te : TE} {D : Ends} {σ : L2.St} {H : Hp} (h : te σ H D.rt) : tRet te D σ H := h
theorem Rng.ne_none {H : Hp} {r p : Addr} {n : Nat} (h : Rng H r n) (t : H p = none) : p ≠ r := by
  obtain ⟨d, s, c, a, _⟩ := h
  exact fun z => by
    rw [z, a] at t
    cases t
/-- one of 's', 'u' -/
theorem su_draw {σ : L2.St} {H : Hp} {r : Addr} {n j : Nat} {E : XK} {Q : VK} (g : Rng H r n) (hn : n < 2 ^ 60) (hj : σ[j]? = some (some (.ref r))) (k : ∀ H' u, Bu r H H' → Rng H' r (n + 1) → Q (.str (plS u)) H') :
    tOp rIxS (tC (.str "su")) (tCall spDraw [] E (tCons (tVar j) (tCons (tC (.int 2)) tNil))) σ H Q := by
  refine op_raw (draw_at (l := 2) (n := n) (ea_cons (ev_var hj) (ea_cons ev_c ea_nil)) (by decide) (log_small (by decide)) hn g fun H5 v b5 g5 v0 v1 => ?_)
  obtain ⟨u, hu⟩ : ∃ u : Bool, atI ("su" : Str).cps.toList v = some (if u then 117 else 115) := by
    have hv : v = 0 ∨ v = 1 := by omega
    rcases hv with rfl | rfl
    · exact ⟨false, by decide +kernel⟩
    · exact ⟨true, by decide +kernel⟩
  have e : (⟨#[if u then 117 else 115]⟩ : Str) = plS u := by cases u <;> rfl
  have := k H5 u b5 g5
  rw [← e] at this
  exact ⟨_, v, _, rfl, rfl, by decide +kernel, hu, this⟩
/-- widths that stand in a list -/
def W5 (top : Int) (ns : List Int) : Prop := ns.length = 5 ∧ ∀ x ∈ ns, 2 ≤ x ∧ x ≤ top
theorem W5.perm {top : Int} {ns ms : List Int} (h : W5 top ns) (p : ms.Perm ns) : W5 top ms := ⟨p.length_eq.trans h.1, fun x hx => h.2 x (p.mem_iff.mp hx)⟩
theorem W5.set {top : Int} {ns : List Int} {i : Nat} {x : Int} (h : W5 top ns) (hx : x ∈ ns) : W5 top (ns.set i x) := ⟨by rw [List.length_set]; exact h.1, fun y hy => by
  rcases List.mem_or_eq_of_mem_set hy with z | z
  · exact h.2 y z
  · rw [z]
    exact h.2 x hx⟩
theorem W5.md {top : Int} {ns : List Int} (h : W5 top ns) (s : ns.Pairwise (· ≤ ·)) (ht : top ≤ 128) (u : Bool) : ∃ m : Md, m.Ok ∧ m.u = u ∧ ns.map V.int = m.ws ∧ (m.w4 : Int) ≤ top := by
  obtain ⟨hl, hm⟩ := h
  match ns, hl with
  | [a, b, c, d, e], _ =>
    have ha := hm a (by simp)
    have hb := hm b (by simp)
    have hc := hm c (by simp)
    have hd := hm d (by simp)
    have he := hm e (by simp)
    simp only [List.pairwise_cons, List.mem_cons, List.not_mem_nil, or_false, forall_eq_or_imp, forall_eq] at s
    obtain ⟨⟨s1, _⟩, ⟨s2, _⟩, ⟨s3, _⟩, s4, _⟩ := s
    refine ⟨⟨a.toNat, b.toNat, c.toNat, d.toNat, e.toNat, u⟩, ⟨?_, ?_, ?_, ?_, ?_, ?_⟩, rfl, ?_, ?_⟩
    all_goals (try (simp only []; omega))
    show [V.int a, V.int b, V.int c, V.int d, V.int e] = [V.int (a.toNat : Nat), V.int (b.toNat : Nat), V.int (c.toNat : Nat), V.int (d.toNat : Nat), V.int (e.toNat : Nat)]
    rw [Int.toNat_of_nonneg (by omega), Int.toNat_of_nonneg (by omega), Int.toNat_of_nonneg (by omega), Int.toNat_of_nonneg (by omega), Int.toNat_of_nonneg (by omega)]
theorem eu_if {σ : L2.St} {H : Hp} {t : TT} {ta tb : TE} {b : Bool} {xs : List V} (h : EvT t σ H b) (h1 : b = true → EvU ta σ H xs) (h2 : b = false → EvU tb σ H xs) : EvU (tIf t ta tb) σ H xs := fun H1 e Q q => h H1 e _ fun H2 e2 => by
  cases b with
  | true => exact iteT (h1 rfl H2 (e.trans e2) Q fun p H3 n3 e3 h3 => q p H3 (fresh_back e2 n3) (e2.trans e3) h3)
  | false => exact iteF (h2 rfl H2 (e.trans e2) Q fun p H3 n3 e3 h3 => q p H3 (fresh_back e2 n3) (e2.trans e3) h3)
def Kd.c0 : Kd → Nat
  | .ch => 99 | .sc => 115 | .uc => 117 | .sh => 115 | .us => 117 | .it => 105 | .ui => 117 | .lo => 108 | .ul => 117 | .wi => 119 | .uw => 117
theorem Kd.c0_at (k : Kd) : atI k.s.cps.toList 0 = some k.c0 := by cases k <;> decide +kernel
theorem Kd.s_len (k : Kd) : k.s.length ≤ 100000 := by cases k <;> decide +kernel
/-- kind[0] == 'u' -/
def Kd.isU : Kd → Bool
  | .uc => true | .us => true | .ui => true | .ul => true | .uw => true | _ => false
theorem ev_isU {σ : L2.St} {H : Hp} {ta : TE} {k : Kd} (h : Ev ta σ H k.v) : Ev (tOp rEq (tOp rIxS ta (tC (.int 0))) (tC (.str "u"))) σ H (.bl k.isU) := by
  refine ev_is (ev_op (ev_op h ev_c (rv_ixS k.s_len k.c0_at)) ev_c (rv_eq rfl)) ?_
  cases k <;> decide +kernel
theorem ev_c0 {σ : L2.St} {H : Hp} {ta : TE} {k : Kd} (h : Ev ta σ H k.v) : Ev (tOp rIxS ta (tC (.int 0))) σ H (.str ⟨#[k.c0]⟩) := ev_op h ev_c (rv_ixS k.s_len k.c0_at)
theorem c0_u (k : Kd) : decide (V.str ⟨#[k.c0]⟩ = V.str "u") = k.isU := by cases k <;> decide +kernel
theorem un_isU (m : Md) {k : Kd} (h : k ≠ .ch) : m.un k = k.isU := by
  cases k <;> first | rfl | exact absurd rfl h
theorem big_ch {k : Kd} (h : k.big) : k ≠ .ch := by
  rcases h with rfl | rfl | rfl | rfl | rfl | rfl <;> decide
theorem at_md {K : PySem.W.Frag} {H : Hp} {p t : Addr} {ns : List Int} {u : Bool} {m : Md} (np : H p = none) (ht : H t = some (.tup (ns.map V.int))) (hu : m.u = u) (hw : ns.map V.int = m.ws) : AtM K (upd H p (.tup [.ref t, .str (plS u)])) p m :=
  ⟨t, st_of (by rw [hu]; exact upd_same), st_of (by rw [← hw]; exact Ex.new np _ _ ht)⟩
/-- a list of ints grows in a comprehension that draws -/
def GrW (H : Hp) (r : Addr) (n : Nat) (lo hi : Int) (D : Addr) (i : Nat) (G : Hp) : Prop := H D = none ∧ Bu r H G ∧ Rng G r (n + i) ∧ ∃ xs : List Int, G D = some (.lst (xs.map V.int)) ∧ xs.length = i ∧ ∀ x ∈ xs, lo ≤ x ∧ x ≤ hi
theorem GrW.start {H : Hp} {r : Addr} {n : Nat} {lo hi : Int} {D : Addr} (g : Rng H r n) (nD : H D = none) : GrW H r n lo hi D 0 (upd H D (.lst [])) :=
  ⟨nD, Bu.of (Ex.new nD), g.ex (Ex.new nD), [], upd_same, rfl, fun x hx => nomatch hx⟩
theorem GrW.step {H : Hp} {r : Addr} {n : Nat} {lo hi : Int} {D : Addr} {i : Nat} {G G2 : Hp} {v : Int} (h : GrW H r n lo hi D i G) (g0 : Rng H r n) (b : Bu r G G2) (g : Rng G2 r (n + i + 1)) (hv : lo ≤ v ∧ v ≤ hi) (hi5 : i < 1000) :
    ∃ acc, G2 D = some (.lst acc) ∧ acc.length < sizeLine ∧ GrW H r n lo hi D (i + 1) (upd G2 D (.lst (acc ++ [.int v]))) := by
  obtain ⟨nD, bu, gr, xs, hD, hl, hx⟩ := h
  have nr : D ≠ r := g0.ne_none nD
  refine ⟨xs.map V.int, b _ _ nr hD, by rw [List.length_map, hl]; exact sz_lt (by omega), nD, fun c o nc hc => ?_, ?_, xs ++ [v], ?_, ?_, ?_⟩
  · have ncD : c ≠ D := fun z => by rw [z, nD] at hc; exact nomatch hc
    rw [upd_ne ncD]
    exact b _ _ nc (bu c o nc hc)
  · obtain ⟨d, s, c, a, a1, a2, a3⟩ := g
    exact ⟨d, s, c, by rw [upd_ne (Ne.symm nr)]; exact a, a1, a2, by omega⟩
  · rw [List.map_append]
    exact upd_same
  · rw [List.length_append, hl]
    rfl
  · intro x hx2
    rcases List.mem_append.mp hx2 with z | z
    · exact hx x z
    · rw [List.mem_singleton.mp z]
      exact hv
section
variable {σ : L2.St} {H : Hp} {ta tr : TA} {te : TE} {tt : TT} {g : TG} {vs : List Nat}
theorem cb_raw {r : List V → Hp → VK → Prop} {Q : VK} (h : ta σ H fun vs H1 => r vs H1 Q) : tCB r ta σ H Q := h
theorem cons_raw {Q : List V → Hp → Prop} (h : te σ H fun x H1 => tr σ H1 fun ys H2 => Q (x :: ys) H2) : tCons te tr σ H Q := h
theorem nil_raw {Q : List V → Hp → Prop} (h : Q [] H) : tNil σ H Q := h
theorem lcR_go {n : Int} {Q : VK} (h : EvA ta σ H [.int n]) (hn : 0 ≤ n ∧ n ≤ 40000) (Pv : Addr → Nat → Hp → Prop) (h0 : ∀ D H1, Ex H H1 → H1 D = none → Pv D 0 (upd H1 D (.lst [])))
    (hs : ∀ D (i : Nat) H', (i : Int) < n → Pv D i H' → g (.int (i : Nat)) (wipe σ vs) H' fun σ2 H2 => wipe σ2 vs = wipe σ vs ∧ tt σ2 H2 fun b H3 =>
      if b = true then te σ2 H3 fun y H4 => ∃ acc, H4 D = some (.lst acc) ∧ acc.length < sizeLine ∧ Pv D (i + 1) (upd H4 D (.lst (acc ++ [y]))) else Pv D (i + 1) H3)
    (hd : ∀ D H', Pv D n.toNat H' → Q (.ref D) H') : tLc (iRng1 ta) g tt te vs σ H Q :=
  h H (Ex.refl H) _ fun H1 e1 => ⟨n, rfl, by omega, by omega, fun D nD => lc_range (lo := 0) (n := n.toNat) (Pv D) (h0 D H1 e1 nD) (fun i H' hi p => by
    have e0 : (0 : Int) + (i : Int) = (i : Int) := Int.zero_add _
    rw [e0]
    exact hs D i H' (by omega) p) (hd D)⟩
end
theorem yes_raw {σ : L2.St} {H : Hp} {Q : Bool → Hp → Prop} (h : Q true H) : tYes σ H Q := h
theorem s_raw {te : TE} {D : Ends} {i : Nat} {σ : L2.St} {H : Hp} (h : te σ H fun x H1 => D.nx (σ.set i (some x)) H1) : tAsg te (gName i) D σ H := h
theorem not_raw {t : TT} {σ : L2.St} {H : Hp} {Q : Bool → Hp → Prop} (h : t σ H fun c H1 => Q (!c) H1) : tNot t σ H Q := h
theorem B_raw {te : TE} {σ : L2.St} {H : Hp} {Q : Bool → Hp → Prop} (h : te σ H fun x H1 => ∃ b, x = .bl b ∧ Q b H1) : tB te σ H Q := h
theorem call_raw {sp : Sp} {dvs : List V} {E : XK} {ta : TA} {σ : L2.St} {H : Hp} {Q : VK} (h : ta σ H fun vs H1 => sp (vs ++ dvs) H1 Q E) : tCall sp dvs E ta σ H Q := h
theorem var_raw {i : Nat} {v : V} {σ : L2.St} {H : Hp} {Q : VK} (hj : σ[i]? = some (some v)) (h : Q v H) : tVar i σ H Q := ⟨v, hj, h⟩
theorem c_raw {v : V} {σ : L2.St} {H : Hp} {Q : VK} (h : Q v H) : tC v σ H Q := h
/-- a loop over range(n), n worked out with draws -/
def ForB (n : Nat) (g : TG) (tb : TS) (D : Ends) (σ : L2.St) (H : Hp) : Prop := ∃ W : Nat → Nat → L2.St → Hp → Prop, (∃ m, W 0 m σ H) ∧ ∀ i m σ H, W i m σ H →
  ((Itr 0 n).stop i H ∧ D.nx σ H) ∨ ((Itr 0 n).go i H ∧ ∃ N : L2.St → Hp → Prop, (∀ σ' H', N σ' H' → ∃ m', m' < m ∧ W (i + 1) m' σ' H') ∧ ∀ x H', (Itr 0 n).yld i H x H' → g x σ H' fun σ2 H2 => tb { D with nx := N, ct := N, bk := D.nx } σ2 H2)
theorem qfor_raw {ta : TA} {g : TG} {tu tz : TS} {D : Ends} {σ : L2.St} {H : Hp} (h : ta σ H fun vs H1 => ∃ j : Int, vs = [.int j] ∧ -(2 ^ 62) ≤ j ∧ j < 2 ^ 62 ∧ ForB j.toNat g tu { D with nx := tz D } σ H1) : tSeq (tFor (iRng1 ta) g tu) tz D σ H := h
theorem sfor_raw {ta : TA} {g : TG} {tu : TS} {D : Ends} {σ : L2.St} {H : Hp} (h : ta σ H fun vs H1 => ∃ j : Int, vs = [.int j] ∧ -(2 ^ 62) ≤ j ∧ j < 2 ^ 62 ∧ ForB j.toNat g tu D σ H1) : tFor (iRng1 ta) g tu D σ H := h
theorem forB_of {n j : Nat} {tu : TS} {D : Ends} {σ : L2.St} {H : Hp} (Pv : Nat → L2.St → Hp → Prop) (h0 : Pv 0 σ H) (hs : ∀ (i : Nat) σ' H', i < n → Pv i σ' H' → tu { D with nx := Pv (i + 1), ct := Pv (i + 1), bk := D.nx } (σ'.set j (some (.int (i : Nat)))) H') (hd : ∀ σ' H', Pv n σ' H' → D.nx σ' H') : ForB n (gName j) tu D σ H :=
  for_range (lo := 0) (n := n) Pv h0 (fun i σ' H' hi p => by
    have e0 : (0 : Int) + (i : Int) = (i : Int) := Int.zero_add _
    rw [e0]
    exact hs i σ' H' hi p) hd
end Cf

namespace Cf
open PySem PySem.Spec PyProof.Rows L2 Evl
/-! ## the pool laws' common types -/
section
variable {K : PySem.W.Frag} {σ : L2.St} {H : Hp} {ta tb : TE} {tz : TS} {D : Ends}
theorem ev_indexA {p : Addr} {k : Kd} (ha : Ev ta σ H (.ref p)) (hl : SqL K H p vKINDS) (hb : Ev tb σ H k.v) : Ev (tBM K "list" (rIndex K) ta (tCons tb tNil)) σ H (.int (k.ix : Nat)) := fun H1 e Q q =>
  ha H1 e _ fun H2 e2 => ⟨.inl ⟨rfl, _, ex_l (e.trans e2) hl⟩, hb H2 (e.trans e2) _ fun H3 e3 =>
    ⟨p, vKINDS, k.v, k.ix, k.v, rfl, rfl, ex_l ((e.trans e2).trans e3) hl, rfl, rfl, by cases k <;> rfl, by rw [kd_eq]; exact decide_eq_true rfl, fun m z hm hz => by
      obtain ⟨k2, e4, rfl⟩ := kd_at hz
      rw [kd_eq]
      refine decide_eq_false fun e5 => ?_
      subst e5
      omega, q H3 (e2.trans e3)⟩⟩
theorem q_asgT2 {i j : Nat} {x y : V} {te : TE} (h : EvU te σ H [x, y]) (k : ∀ H1, Ex H H1 → tz D ((σ.set i (some x)).set j (some y)) H1) : tSeq (tAsg te (gTup K 2 (gCons (gName i) (gCons (gName j) gNil)))) tz D σ H :=
  h H (Ex.refl H) _ fun p H1 _ e h1 => ⟨p, _, rfl, st_of h1, rfl, _, _, rfl, _, _, rfl, rfl, k H1 e⟩
theorem q_asgL2 {i j : Nat} {x y : V} {l : Addr} {te : TE} (h : Ev te σ H (.ref l)) (hl : SqL K H l [x, y]) (k : ∀ H1, Ex H H1 → tz D ((σ.set i (some x)).set j (some y)) H1) : tSeq (tAsg te (gUnl K 2 (gCons (gName i) (gCons (gName j) gNil)))) tz D σ H :=
  h H (Ex.refl H) _ fun H1 e => ⟨l, _, rfl, ex_l e hl, rfl, _, _, rfl, _, _, rfl, rfl, k H1 e⟩
end
theorem Md.law_prom (m : Md) (h : m.Ok) (k : Kd) (hk : k.ix < 5) : m.prom k = if (m.un k && decide (m.b k = m.b .it)) = true then .ui else .it := by
  obtain ⟨h0, h1, h2, h3, h4, h5⟩ := h
  unfold Md.prom
  have hr : ¬ 2 ≤ k.rk := by
    revert hk
    cases k <;> decide
  rw [if_neg hr]
  have hb : m.b k ≤ m.b .it := by
    revert hr
    cases k <;> simp only [Md.b, Md.w, Kd.rk] <;> omega
  by_cases hu : m.un k = true
  · rw [hu]
    by_cases e : m.b k = m.b .it
    · rw [if_pos ⟨rfl, by omega⟩, if_pos (by simp [e])]
    · rw [if_neg (fun z => e (by omega)), if_neg (by simp [e])]
  · rw [if_neg (fun z => hu z.1), if_neg (by simp [hu])]
theorem Md.prom_ix (m : Md) (k : Kd) (hk : ¬ k.ix < 5) : m.prom k = k := by
  unfold Md.prom
  rw [if_pos]
  revert hk
  cases k <;> decide
theorem Md.com2_same (m : Md) {a b : Kd} (ha : a.big) (hb : b.big) (h : a.isU = b.isU) : m.com2 a b = if b.ix ≤ a.ix then a else b := by
  rcases ha with rfl | rfl | rfl | rfl | rfl | rfl <;> rcases hb with rfl | rfl | rfl | rfl | rfl | rfl <;> first | (exact absurd h (by decide)) | rfl
theorem Md.com2_mix (m : Md) {a b : Kd} (ha : a.big) (hb : b.big) (h : a.isU ≠ b.isU) : m.com2 a b = if a.isU = true then m.mix a b else m.mix b a := by
  unfold Md.com2
  rw [un_isU m (big_ch ha), un_isU m (big_ch hb), if_neg h]
theorem Md.mix_law (m : Md) {x y : Kd} (hx : x.big) (hy : y.big) (ux : x.isU = true) (uy : y.isU = false) : m.mix x y = if y.ix < x.ix then x else if m.b x < m.b y then y else uKd y.rk := by
  rcases hx with rfl | rfl | rfl | rfl | rfl | rfl <;> rcases hy with rfl | rfl | rfl | rfl | rfl | rfl <;> first | (exact absurd ux (by decide)) | (exact absurd uy (by decide)) | rfl
theorem u_add {y : Kd} (hy : y.big) (uy : y.isU = false) : ("u" : Str) ++ y.s = (uKd y.rk).s := by
  rcases hy with rfl | rfl | rfl | rfl | rfl | rfl <;> first | (exact absurd uy (by decide)) | decide +kernel
theorem u_len {y : Kd} : ("u" : Str).length + y.s.length ≤ sizeLine := sz_of (by cases y <;> decide +kernel)
theorem kd_eq2 (a b : Kd) : decide (a.v = b.v) = decide (a = b) := by cases a <;> cases b <;> decide +kernel
/-- an operation whose left side is a new tuple -/
theorem ev_opU1 {σ : L2.St} {H : Hp} {ta tb : TE} {r : R2} {y z : V} {xs : List V} (ha : EvU ta σ H xs) (hb : ∀ H1, Ex H H1 → Ev tb σ H1 y) (hr : ∀ p H1, H1 p = some (.tup xs) → Ex H H1 → RV r (.ref p) y H1 z) : Ev (tOp r ta tb) σ H z := fun H1 e Q q =>
  ha H1 e _ fun p H2 n2 e2 h2 => hb H2 (e.trans e2) H2 (Ex.refl H2) _ fun H3 e3 => hr p H3 (e3 _ _ h2) ((e.trans e2).trans e3) H3 (Ex.refl H3) _ fun H4 e4 => q H4 ((e2.trans e3).trans e4)
end Cf

set_option exponentiation.threshold 20000
namespace Cf
open PySem PySem.Spec PyProof.Rows L2 Evl
/-! ## repr of data with great ints -/
mutual
def SmW : PyData → Prop
  | .none => True
  | .bool _ => True
  | .int i => i.natAbs < 2 ^ 400
  | .str x => x.cps.size ≤ 30 ∧ (x.cps.toList.all fun c => decide (c < 16 ^ 8)) = true
  | .list xs => SmWAll xs
  | .tuple xs => SmWAll xs
  | .dict _ => False
def SmWAll : List PyData → Prop
  | [] => True
  | x :: xs => SmW x ∧ SmWAll xs
end
theorem int_lenW {i : Int} (h : i.natAbs < 2 ^ 400) : (PyData.shown (.int i)).length ≤ 401 := by
  have h1 := int_text_length_le (a := i) (k := 400) (by decide) (PySem.Flt.log2_lt_of (by decide) h)
  simp only [PyData.shown]
  show (Str.ofString (toString i)).length ≤ 401
  have e : (Str.ofString (toString i)).length = (toString i).length := PySem.ofString_length _
  omega
mutual
theorem smw_all : ∀ d : PyData, SmW d → d.showable = true ∧ d.hasDict = false ∧ d.leavesShort 401 = true ∧ d.weight + 1 ≤ 402 * szD d
  | .none, _ => ⟨by simp only [PyData.showable], by simp only [PyData.hasDict], by simp only [PyData.leavesShort], by simp only [PyData.weight, szD]; omega⟩
  | .bool _, _ => ⟨by simp only [PyData.showable], by simp only [PyData.hasDict], by simp only [PyData.leavesShort], by simp only [PyData.weight, szD]; omega⟩
  | .int i, h => by
    have h1 : i.natAbs < 2 ^ 400 := h
    have h2 : i.natAbs.log2 < 400 := PySem.Flt.log2_lt_of (by decide) h1
    refine ⟨?_, by simp only [PyData.hasDict], ?_, ?_⟩
    · simp only [PyData.showable]
      exact decide_eq_true (by omega)
    · simp only [PyData.leavesShort]
      exact decide_eq_true (int_lenW h1)
    · simp only [PyData.weight, szD]
      split <;> omega
  | .str x, h => by
    have h1 : x.cps.size ≤ 30 ∧ (x.cps.toList.all fun c => decide (c < 16 ^ 8)) = true := h
    refine ⟨by simp only [PyData.showable], by simp only [PyData.hasDict], ?_, ?_⟩
    · simp only [PyData.leavesShort]
      exact h1.2
    · simp only [PyData.weight, szD]
      omega
  | .list xs, h => by
    obtain ⟨a, b, c, e⟩ := smw_alls xs h
    refine ⟨by simp only [PyData.showable]; exact a, by simp only [PyData.hasDict]; exact b, by simp only [PyData.leavesShort]; exact c, ?_⟩
    simp only [PyData.weight, szD]
    omega
  | .tuple xs, h => by
    obtain ⟨a, b, c, e⟩ := smw_alls xs h
    refine ⟨by simp only [PyData.showable]; exact a, by simp only [PyData.hasDict]; exact b, by simp only [PyData.leavesShort]; exact c, ?_⟩
    simp only [PyData.weight, szD]
    omega
  | .dict _, h => h.elim
theorem smw_alls : ∀ ds : List PyData, SmWAll ds → PyData.showableAll ds = true ∧ PyData.hasDictAll ds = false ∧ PyData.leavesShortAll 401 ds = true ∧ PyData.weightAll ds ≤ 402 * szAll ds
  | [], _ => ⟨by simp only [PyData.showableAll], by simp only [PyData.hasDictAll], by simp only [PyData.leavesShortAll], by simp only [PyData.weightAll]; omega⟩
  | x :: xs, h => by
    obtain ⟨a1, b1, c1, e1⟩ := smw_all x h.1
    obtain ⟨a2, b2, c2, e2⟩ := smw_alls xs h.2
    refine ⟨by simp only [PyData.showableAll, a1, a2]; rfl, by simp only [PyData.hasDictAll, b1, b2]; rfl, by simp only [PyData.leavesShortAll, c1, c2]; rfl, ?_⟩
    simp only [PyData.weightAll, szAll]
    omega
end
theorem smw_len {d : PyData} (h : SmW d) (z : szD d ≤ 100) : d.shown.length ≤ sizeLine := by
  obtain ⟨_, _, c, e⟩ := smw_all d h
  have h1 := PyData.shown_le 401 (by decide) d c
  have h2 := sizeLine_eq
  omega
/-! ## values told as data -/
def EvP (K : PySem.W.Frag) (te : TE) (σ : L2.St) (H : Hp) (d : PyData) : Prop := ∀ H1, Ex H H1 → ∀ Q : VK, (∀ v H2, Ex H1 H2 → Dp K H2 v d → Q v H2) → te σ H1 Q
def EvAP (K : PySem.W.Frag) (ta : TA) (σ : L2.St) (H : Hp) (ds : List PyData) : Prop := ∀ H1, Ex H H1 → ∀ Q : List V → Hp → Prop, (∀ vs H2, Ex H1 H2 → DpAll K H2 vs ds → Q vs H2) → ta σ H1 Q
/-- what a def gives as data -/
def PDt (K : PySem.W.Frag) (pre : List V → Hp → PyData → Prop) : Sp := fun vs H Q _ => ∃ d, pre vs H d ∧ ∀ v H', Ex H H' → Dp K H' v d → Q v H'
theorem pre_lenD {K : PySem.W.Frag} {pre : List V → Hp → PyData → Prop} {n : Nat} (h : ∀ vs H v, pre vs H v → vs.length = n) : ∀ vs H Q E, PDt K pre vs H Q E → vs.length = n := fun vs H Q E q => by
  obtain ⟨v, a, _⟩ := q
  exact h _ _ _ a
section
variable {K : PySem.W.Frag} {σ : L2.St} {H : Hp} {ta tb te : TE} {tr : TA} {d e : PyData} {ds es : List PyData} {v : V} {xs vs : List V}
theorem ed_of (h : Ev te σ H v) (hd : ∀ H1, Ex H H1 → Dp K H1 v d) : EvP K te σ H d := fun H1 e Q q => h H1 e _ fun H2 e2 => q v H2 e2 (hd H2 (e.trans e2))
theorem ead_nil : EvAP K tNil σ H [] := fun H1 _ _ q => q [] H1 (Ex.refl H1) .nil
theorem ead_cons (h : EvP K te σ H d) (hr : EvAP K tr σ H ds) : EvAP K (tCons te tr) σ H (d :: ds) := fun H1 e Q q => h H1 e _ fun v H2 e2 hv => hr H2 (e.trans e2) _ fun vs H3 e3 hvs => q (v :: vs) H3 (e2.trans e3) (.cons (dp_ex e3 d v hv) hvs)
theorem dps_len : ∀ {ds : List PyData} {vs : List V}, DpAll K H vs ds → vs.length = ds.length
  | [], _, h => by cases h; rfl
  | d :: ds, _, h => by
    cases h with
    | cons a b => exact congrArg (· + 1) (dps_len b)
theorem ed_lst (h : EvAP K tr σ H ds) (hl : ds.length ≤ 100000) : EvP K (tLst tr) σ H (.list ds) := fun H1 e Q q => h H1 e _ fun vs H2 e2 hvs => ⟨sz_of (by rw [dps_len hvs]; exact hl), fun p np => q (.ref p) _ (e2.trans (Ex.new np)) (.lst (sq_of upd_same) (dps_ex (Ex.new np) ds vs hvs))⟩
theorem ed_tup (h : EvAP K tr σ H ds) (hl : ds.length ≤ 100000) : EvP K (tTup tr) σ H (.tuple ds) := fun H1 e Q q => h H1 e _ fun vs H2 e2 hvs => ⟨sz_of (by rw [dps_len hvs]; exact hl), fun p np => q (.ref p) _ (e2.trans (Ex.new np)) (.tup (st_of upd_same) (dps_ex (Ex.new np) ds vs hvs))⟩
theorem ed_if {t : TT} {b : Bool} (h : EvT t σ H b) (h1 : b = true → EvP K ta σ H d) (h2 : b = false → EvP K tb σ H d) : EvP K (tIf t ta tb) σ H d := fun H1 e Q q => h H1 e _ fun H2 e2 => by
  cases b with
  | true => exact iteT (h1 rfl H2 (e.trans e2) Q fun v H3 e3 h3 => q v H3 (e2.trans e3) h3)
  | false => exact iteF (h2 rfl H2 (e.trans e2) Q fun v H3 e3 h3 => q v H3 (e2.trans e3) h3)
theorem ed_call {sp : List V → Hp → PyData → Prop} {E : XK} {ta : TA} (h : EvA ta σ H vs) (hs : ∀ H1, Ex H H1 → sp vs H1 d) : EvP K (tCall (PDt K sp) [] E ta) σ H d := fun H1 e Q q =>
  h H1 e _ fun H2 e2 => ⟨d, by rw [List.append_nil]; exact hs H2 (e.trans e2), fun v H3 e3 hv => q v H3 (e2.trans e3) hv⟩
theorem ed_kw {sp : List V → Hp → PyData → Prop} {m : Nat} {gV : List V → List V} {E : XK} {tk : TA} {zs : List V} (h : EvA tk σ H zs) (hl : zs.length = m) (hs : ∀ H1, Ex H H1 → sp (gV zs) H1 d) : EvP K (tKw m (PDt K sp) gV E tk) σ H d := fun H1 e Q q =>
  h H1 e _ fun H2 e2 => ⟨hl, d, hs H2 (e.trans e2), fun v H3 e3 hv => q v H3 (e2.trans e3) hv⟩
theorem q_asgD {i : Nat} {tz : TS} {D : Ends} (h : EvP K te σ H d) (k : ∀ v H1, Ex H H1 → Dp K H1 v d → tz D (σ.set i (some v)) H1) : tSeq (tAsg te (gName i)) tz D σ H := h H (Ex.refl H) _ fun v H1 e hv => k v H1 e hv
theorem s_retD {D : Ends} (h : EvP K te σ H d) (k : ∀ v H1, Ex H H1 → Dp K H1 v d → D.rt v H1) : tRet te D σ H := h H (Ex.refl H) _ k
theorem ev_reprP (h : EvP K te σ H (.list ds)) (hs : SmWAll ds) (hz : szD (.list ds) ≤ 100) (hp : (PyData.list ds).depth ≤ 60) : Ev (tCB (rRepr K) (tCons te tNil)) σ H (.str (PyData.shown (.list ds))) := fun H1 e Q q =>
  h H1 e _ fun v H2 e2 hv => by
    cases hv with
    | lst a b => exact ⟨_, .list ds, rfl, .lst a b, (smw_all (.list ds) hs).1, (smw_all (.list ds) hs).2.1, smw_len (d := .list ds) hs hz, hp, q H2 e2⟩
end
/-! ## mixed comparisons -/
def Md.sgn (m : Md) (k l : Kd) : Option Kd := if m.un (m.com k l) = true then (if m.un k = false then some k else if m.un l = false then some l else none) else none
def sgV : Option Kd → V
  | none => .non
  | some k => k.v
def Md.cw (m : Md) (k l : Kd) : Int := match m.sgn k l with
  | none => 0
  | some s => if s = k then 2 ^ (m.b s - 1) * (2 * (2 ^ m.b (m.com k l) - 1) - 2 ^ (m.b s - 1) + 1) / 2 + 2 ^ (m.b s - 1) else 2 ^ (m.b s - 1) * (2 * (2 ^ m.b (m.com k l) - 1) - 2 ^ (m.b s - 1) + 1) / 2
def Md.fw (m : Md) (k l : Kd) : PyData := match m.sgn k l with
  | none => .none
  | some s => if s = k then .tuple [.int (m.low s), .int 0] else .tuple [.int 0, .int (m.low s)]
def preMD (K : PySem.W.Frag) (g : Md → Kd → Kd → PyData) : List V → Hp → PyData → Prop := fun vs H d => ∃ p m k l, vs = [.ref p, k.v, l.v] ∧ AtM K H p m ∧ m.Ok ∧ d = g m k l
theorem Md.prom_un (m : Md) (h : m.Ok) (k : Kd) : (m.un k = false → (m.prom k).isU = false ∧ m.b k ≤ m.b (m.prom k)) ∧ ((m.prom k).isU = true → m.un k = true ∧ m.b k = m.b (m.prom k)) := by
  obtain ⟨h0, h1, h2, h3, h4, h5⟩ := h
  by_cases hr : 2 ≤ k.rk
  · have e : m.prom k = k := by unfold Md.prom; rw [if_pos hr]
    rw [e]
    have hk : k ≠ .ch := fun z => by rw [z] at hr; exact absurd hr (by decide)
    rw [un_isU m hk]
    exact ⟨fun q => ⟨q, Nat.le_refl _⟩, fun q => ⟨q, rfl⟩⟩
  · have hb : m.b k ≤ m.b .it := by
      revert hr
      cases k <;> simp only [Md.b, Md.w, Kd.rk] <;> omega
    unfold Md.prom
    rw [if_neg hr]
    by_cases c : m.un k = true ∧ m.b .it ≤ m.b k
    · rw [if_pos c]
      refine ⟨fun q => ?_, fun q => ⟨c.1, ?_⟩⟩
      · rw [c.1] at q
        exact nomatch q
      · show m.b k = m.b .it
        omega
    · rw [if_neg c]
      exact ⟨fun _ => ⟨rfl, hb⟩, fun q => nomatch q⟩
theorem Md.mix_un (m : Md) (h : m.Ok) {x y : Kd} (hx : x.big) (hy : y.big) (ux : x.isU = true) (uy : y.isU = false) : (m.un (m.mix x y) = true → m.b (m.mix x y) = m.b x ∧ m.b y ≤ m.b x) ∧ (m.un (m.mix x y) = false → m.mix x y = y) := by
  obtain ⟨h0, h1, h2, h3, h4, h5⟩ := h
  rcases hx with rfl | rfl | rfl | rfl | rfl | rfl <;> first | (exact absurd ux (by decide)) | skip
  all_goals (rcases hy with rfl | rfl | rfl | rfl | rfl | rfl <;> first | (exact absurd uy (by decide)) | skip)
  all_goals (simp only [Md.mix, Kd.rk, Md.b, Md.w, uKd] <;> (repeat' split) <;> simp_all [Md.un, Kd.rk, Md.b, Md.w, uKd] <;> omega)
/-- the shape of a pair of types whose common type is unsigned while one of them is signed -/
theorem Md.sgn_cases (m : Md) (h : m.Ok) (k l : Kd) : (m.sgn k l = none ∧ (m.un (m.com k l) = false ∨ m.un k = true ∧ m.un l = true)) ∨
    (m.sgn k l = some k ∧ m.un (m.com k l) = true ∧ m.un k = false ∧ m.un l = true ∧ m.b l = m.b (m.com k l) ∧ m.b k ≤ m.b (m.com k l)) ∨
    (m.sgn k l = some l ∧ k ≠ l ∧ m.un (m.com k l) = true ∧ m.un k = true ∧ m.un l = false ∧ m.b k = m.b (m.com k l) ∧ m.b l ≤ m.b (m.com k l)) := by
  cases hc : m.un (m.com k l) with
  | false => exact .inl ⟨by unfold Md.sgn; rw [hc, if_neg (by decide)], .inl rfl⟩
  | true =>
    have ek : m.com k l = m.com2 (m.prom k) (m.prom l) := rfl
    have pk := m.prom_un h k
    have pl := m.prom_un h l
    have bk := m.prom_big k
    have bl := m.prom_big l
    cases uk : m.un k with
    | false =>
      obtain ⟨u1, b1⟩ := pk.1 uk
      have hs : m.sgn k l = some k := by unfold Md.sgn; rw [hc, if_pos rfl, uk, if_pos rfl]
      cases u2 : (m.prom l).isU with
      | false =>
        have e := m.com2_same bk bl (u1.trans u2.symm)
        rw [ek, e] at hc
        split at hc
        · rw [un_isU m (big_ch bk), u1] at hc
          exact nomatch hc
        · rw [un_isU m (big_ch bl), u2] at hc
          exact nomatch hc
      | true =>
        obtain ⟨ul, b2⟩ := pl.2 u2
        have e := m.com2_mix bk bl (by rw [u1, u2]; decide)
        rw [u1, if_neg (by decide)] at e
        have mu := m.mix_un h bl bk u2 u1
        rw [ek, e] at hc ⊢
        obtain ⟨m1, m2⟩ := mu.1 hc
        exact .inr (.inl ⟨hs, rfl, rfl, ul, by omega, by omega⟩)
    | true =>
      cases ul : m.un l with
      | true => exact .inl ⟨by unfold Md.sgn; rw [hc, if_pos rfl, uk, ul]; rfl, .inr ⟨rfl, rfl⟩⟩
      | false =>
        obtain ⟨u2, b2⟩ := pl.1 ul
        have hs : m.sgn k l = some l := by unfold Md.sgn; rw [hc, if_pos rfl, uk, ul]; rfl
        have nkl : k ≠ l := fun z => by rw [z, ul] at uk; exact nomatch uk
        cases u1 : (m.prom k).isU with
        | false =>
          have e := m.com2_same bk bl (u1.trans u2.symm)
          rw [ek, e] at hc
          split at hc
          · rw [un_isU m (big_ch bk), u1] at hc
            exact nomatch hc
          · rw [un_isU m (big_ch bl), u2] at hc
            exact nomatch hc
        | true =>
          obtain ⟨uk2, b1⟩ := pk.2 u1
          have e := m.com2_mix bk bl (by rw [u1, u2]; decide)
          rw [u1, if_pos rfl] at e
          have mu := m.mix_un h bk bl u1 u2
          rw [ek, e] at hc ⊢
          obtain ⟨m1, m2⟩ := mu.1 hc
          exact .inr (.inr ⟨hs, nkl, rfl, rfl, rfl, by omega, by omega⟩)
theorem q_par3 {σ : L2.St} {H : Hp} {ta tb tc : TE} {tz : TS} {D : Ends} {i j l : Nat} {x y z : V} (ha : Ev ta σ H x) (hb : Ev tb σ H y) (hc : Ev tc σ H z) (k : ∀ H1, Ex H H1 → tz D (((σ.set i (some x)).set j (some y)).set l (some z)) H1) : tSeq (tPar3 i j l (tCons ta (tCons tb (tCons tc tNil)))) tz D σ H :=
  ha H (Ex.refl H) _ fun H1 e1 => hb H1 e1 _ fun H2 e2 => hc H2 (e1.trans e2) _ fun H3 e3 => ⟨x, y, z, rfl, k H3 (e1.trans (e2.trans e3))⟩
theorem ed_eq {K : PySem.W.Frag} {σ : L2.St} {H : Hp} {ta tb : TE} {d e : PyData} {b : Bool} (ha : EvP K ta σ H d) (hb : EvP K tb σ H e) (sd : SeqAt.shaped d = true) (se : SeqAt.shaped e = true) (hq : PyData.eqv d e = b) : Ev (tOp (rEqD K) ta tb) σ H (.bl b) := fun H1 e1 Q q =>
  ha H1 e1 _ fun x H2 e2 hx => hb H2 (e1.trans e2) _ fun y H3 e3 hy => ⟨d, e, dp_ex e3 d x hx, hy, sd, se, by rw [hq]; exact q H3 (e2.trans e3)⟩
theorem Md.low_un (m : Md) {k : Kd} (h : m.un k = true) : m.low k = 0 := by unfold Md.low; rw [if_pos h]
theorem Md.low_sg (m : Md) {k : Kd} (h : m.un k = false) : m.low k = -(2 ^ (m.b k - 1)) ∧ m.low k < 0 := by
  have e : m.low k = -(2 ^ (m.b k - 1)) := by unfold Md.low; rw [if_neg (by rw [h]; decide)]
  have p := p2 (m.b k - 1)
  exact ⟨e, by omega⟩
theorem Md.high_un (m : Md) {k : Kd} (h : m.un k = true) : m.high k = 2 ^ m.b k - 1 := by unfold Md.high; rw [if_pos h]
def fallen (many high top : Int) : Int :=
  (if (if top - many + 1 > 0 then top - many + 1 else 0) < high + 1 then (if top - many + 1 > 0 then top - many + 1 else 0) else high + 1) * many +
    (high + 1 - (if (if top - many + 1 > 0 then top - many + 1 else 0) < high + 1 then (if top - many + 1 > 0 then top - many + 1 else 0) else high + 1)) *
      (top - (if (if top - many + 1 > 0 then top - many + 1 else 0) < high + 1 then (if top - many + 1 > 0 then top - many + 1 else 0) else high + 1) + top - high) / 2
theorem half_sum (a b c : Int) (h : 2 * a + b = c) : a + b / 2 = c / 2 := by omega
/-- rows that fall by one, from below or with the ends -/
theorem fallen_a {a b : Int} (h1 : 1 ≤ a) (h2 : a ≤ b) : fallen a (b - 1) b = a * (2 * (b - 1) - a + 1) / 2 + a := by
  unfold fallen
  have c1 : b - a + 1 > 0 := by omega
  rw [if_pos c1]
  have e1 : b - 1 + 1 = b := by omega
  rw [e1]
  have e2 : (if b - a + 1 < b then b - a + 1 else b) = b - a + 1 := by split <;> omega
  rw [e2]
  have e3 : b - (b - a + 1) = a - 1 := by omega
  have e4 : b - (b - a + 1) + b - (b - 1) = a := by omega
  rw [e4, e3]
  have k1 : (b - a + 1) * a = b * a - a * a + a := by rw [Int.add_mul, Int.sub_mul, Int.one_mul]
  have k2 : (a - 1) * a = a * a - a := by rw [Int.sub_mul, Int.one_mul]
  have k3 : a * (2 * (b - 1) - a + 1) = 2 * (b * a) - a * a - a := by
    rw [Int.mul_add, Int.mul_sub, Int.mul_one, Int.mul_comm a (2 * (b - 1)), Int.mul_assoc, Int.sub_mul, Int.one_mul, Int.mul_sub]
    omega
  rw [k1, k2, k3]
  generalize b * a = x
  generalize a * a = y
  omega
theorem fallen_b {a b : Int} (h1 : 1 ≤ a) (h2 : a ≤ b) : fallen a (b - 1) (b - 1) = a * (2 * (b - 1) - a + 1) / 2 := by
  unfold fallen
  have e1 : b - 1 + 1 = b := by omega
  have e2 : (if b - 1 - a + 1 > 0 then b - 1 - a + 1 else 0) = b - a := by split <;> omega
  rw [e2, e1]
  have e3 : (if b - a < b then b - a else b) = b - a := by split <;> omega
  rw [e3]
  have e4 : b - (b - a) = a := by omega
  have e5 : b - 1 - (b - a) + (b - 1) - (b - 1) = a - 1 := by omega
  rw [e4, e5]
  have k1 : (b - a) * a = b * a - a * a := by rw [Int.sub_mul]
  have k2 : a * (a - 1) = a * a - a := by rw [Int.mul_sub, Int.mul_one]
  have k3 : a * (2 * (b - 1) - a + 1) = 2 * (b * a) - a * a - a := by
    rw [Int.mul_add, Int.mul_sub, Int.mul_one, Int.mul_comm a (2 * (b - 1)), Int.mul_assoc, Int.sub_mul, Int.one_mul, Int.mul_sub]
    omega
  rw [k1, k2, k3]
  generalize b * a = x
  generalize a * a = y
  omega
theorem pow_lt128 {n : Nat} (h : n ≤ 128) : (2 : Int) ^ n ≤ 2 ^ 128 := by
  have : (2 : Nat) ^ n ≤ 2 ^ 128 := Nat.pow_le_pow_right (by decide) h
  exact_mod_cast this
theorem Md.cw_small (m : Md) (h : m.Ok) (k l : Kd) : (m.cw k l).natAbs < 2 ^ 400 := by
  unfold Md.cw
  cases hs : m.sgn k l with
  | none => show (0 : Int).natAbs < 2 ^ 400; decide
  | some s =>
    have a0 := p2 (m.b s - 1)
    have b0 := p2 (m.b (m.com k l))
    have a1 := pow_lt128 (n := m.b s - 1) (by have := (h.b s).2; omega)
    have b1 := pow_lt128 (n := m.b (m.com k l)) (h.b _).2
    simp only []
    generalize (2 : Int) ^ (m.b s - 1) = a at *
    generalize (2 : Int) ^ m.b (m.com k l) = b at *
    have e : (a * (2 * (b - 1) - a + 1)).natAbs < 2 ^ (140 + 140) := wide_lt (by omega) (by omega)
    generalize a * (2 * (b - 1) - a + 1) = x at *
    split <;> omega
theorem Md.fw_small (m : Md) (h : m.Ok) (k l : Kd) : SmW (m.fw k l) ∧ szD (m.fw k l) ≤ 3 ∧ (m.fw k l).depth ≤ 3 := by
  unfold Md.fw
  cases hs : m.sgn k l with
  | none => exact ⟨trivial, by simp [szD], by simp [PyData.depth]⟩
  | some s =>
    have hl := (m.small h s).1
    have hl2 : SmW (.int (m.low s)) := by show (m.low s).natAbs < 2 ^ 400; omega
    have h0 : SmW (.int 0) := by show (0 : Int).natAbs < 2 ^ 400; decide
    simp only []
    split
    · exact ⟨⟨hl2, h0, trivial⟩, by simp [szD, szAll], by simp [PyData.depth, PyData.depthAll]⟩
    · exact ⟨⟨h0, hl2, trivial⟩, by simp [szD, szAll], by simp [PyData.depth, PyData.depthAll]⟩
def preFal : List V → Hp → V → Prop := fun vs H v => ∃ a b c : Int, vs = [.int a, .int b, .int c] ∧ a.natAbs < 2 ^ 140 ∧ b.natAbs < 2 ^ 140 ∧ c.natAbs < 2 ^ 140 ∧ v = .int (fallen a b c)
theorem spFal {H : Hp} {a b c : Int} (h1 : a.natAbs < 2 ^ 140) (h2 : b.natAbs < 2 ^ 140) (h3 : c.natAbs < 2 ^ 140) : SpV (PV preFal) [.int a, .int b, .int c] H (.int (fallen a b c)) := PV.sp fun H1 e => ⟨a, b, c, rfl, h1, h2, h3, rfl⟩
def mixD (m : Md) (k l : Kd) : PyData := .list [.int (m.cw k l), m.fw k l]
theorem mixD_ok (m : Md) (h : m.Ok) (k l : Kd) : SmWAll [.int (m.cw k l), m.fw k l] ∧ szD (mixD m k l) ≤ 100 ∧ (mixD m k l).depth ≤ 60 := by
  obtain ⟨a, b, c⟩ := m.fw_small h k l
  refine ⟨⟨m.cw_small h k l, a, trivial⟩, ?_, ?_⟩
  · simp only [mixD, szD, szAll]
    omega
  · simp only [mixD, PyData.depth, PyData.depthAll]
    omega
end Cf

set_option exponentiation.threshold 20000
namespace Cf
open PySem PySem.Spec PyProof.Rows L2 Evl
/-! ## comparisons that go wrong, tried one by one -/
theorem kd_draw {K : PySem.W.Frag} {σ : L2.St} {H : Hp} {r : Addr} {n j : Nat} {E E2 : XK} {Q : VK} (g : Rng H r n) (hn : n < 2 ^ 60) (hj : σ[j]? = some (some (.ref r))) (k : ∀ H' kd, Bu r H H' → Rng H' r (n + 1) → Q (Kd.v kd) H') :
    tOp (rIxL K) (tCall (PL (preNil vKINDS)) [] E tNil) (tCall spDraw [] E2 (tCons (tVar j) (tCons (tC (.int 11)) tNil))) σ H Q := by
  refine op_raw ((show EvL (tCall (PL (preNil vKINDS)) [] E tNil) σ H vKINDS from el_call ea_nil (PL.sp fun H7 e7 => ⟨rfl, rfl⟩)) H (Ex.refl H) _ fun t H1 n1 e1 h1 => ?_)
  have g1 := g.ex e1
  have htr : t ≠ r := by
    obtain ⟨d, s, c, q, _⟩ := g
    exact fun z => by rw [z, q] at n1; exact nomatch n1
  refine draw_at (l := 11) (n := n) (ea_cons (ev_var hj) (ea_cons ev_c ea_nil)) (by decide) (log_small (by decide)) hn g1 fun H2 v b2 g2 v0 v1 => ?_
  obtain ⟨i, rfl⟩ : ∃ i : Nat, v = (i : Int) := ⟨v.toNat, by omega⟩
  have hi : i < vKINDS.length := by show i < 11; omega
  obtain ⟨kd, _, hkd⟩ := kd_at (List.getElem?_eq_getElem hi)
  exact ⟨t, _, (i : Int), _, rfl, rfl, sq_of (b2 _ _ htr h1), atI_nat ((List.getElem?_eq_getElem hi).trans (by rw [hkd])), k H2 kd ((Bu.of e1).trans b2) g2⟩
def wrB (x y : Bool) : Bool := !decide (V.bl x = V.bl y)
theorem wrB_eq (x y : Bool) : wrB x y = (x != y) := by cases x <;> cases y <;> decide
def Md.wr (m : Md) (c : Kd) (l r : Int) : Bool := wrB (decide (m.conv c l < m.conv c r)) (decide (l < r))
def rowW (f : Int → Bool) (l b : Int) : Nat → List (Int × Int) → List (Int × Int)
  | 0, w => w
  | n + 1, w => if f (b + n) = true then rowW f l b n w ++ [(l, b + n)] else rowW f l b n w
def totW (f : Int → Int → Bool) (a b : Int) (n2 : Nat) : Nat → List (Int × Int)
  | 0 => []
  | n + 1 => rowW (f (a + n)) (a + n) b n2 (totW f a b n2 n)
abbrev Cnt := Nat × Option (Int × Int)
def rowC (f : Int → Bool) (l b : Int) : Nat → Cnt → Cnt
  | 0, w => w
  | n + 1, w => if f (b + n) = true then ((rowC f l b n w).1 + 1, (rowC f l b n w).2.or (some (l, b + n))) else rowC f l b n w
def totC (f : Int → Int → Bool) (a b : Int) (n2 : Nat) : Nat → Cnt
  | 0 => (0, none)
  | n + 1 => rowC (f (a + n)) (a + n) b n2 (totC f a b n2 n)
def cntOf (w : List (Int × Int)) : Cnt := (w.length, w.head?)
theorem row_cnt (f : Int → Bool) (l b : Int) : ∀ (n : Nat) (w : List (Int × Int)), cntOf (rowW f l b n w) = rowC f l b n (cntOf w)
  | 0, w => rfl
  | n + 1, w => by
    have ih := row_cnt f l b n w
    simp only [rowW, rowC]
    split
    · rw [← ih]
      simp [cntOf]
    · exact ih
theorem tot_cnt (f : Int → Int → Bool) (a b : Int) (n2 : Nat) : ∀ n, cntOf (totW f a b n2 n) = totC f a b n2 n
  | 0 => rfl
  | n + 1 => by rw [totW, row_cnt, tot_cnt f a b n2 n]; rfl
theorem row_len (f : Int → Bool) (l b : Int) : ∀ (n : Nat) (w : List (Int × Int)), (rowW f l b n w).length ≤ w.length + n
  | 0, w => Nat.le_refl _
  | n + 1, w => by
    have ih := row_len f l b n w
    simp only [rowW]
    split
    · rw [List.length_append]
      simp only [List.length_singleton]
      omega
    · omega
theorem tot_len (f : Int → Int → Bool) (a b : Int) (n2 : Nat) : ∀ n, (totW f a b n2 n).length ≤ n * n2
  | 0 => by simp [totW]
  | n + 1 => by
    have h := row_len (f (a + n)) (a + n) b n2 (totW f a b n2 n)
    have ih := tot_len f a b n2 n
    rw [totW, Nat.succ_mul]
    omega
theorem row_no {f : Int → Bool} {l b : Int} : ∀ {n : Nat} {w : List (Int × Int)}, (∀ i : Nat, i < n → f (b + i) = false) → rowW f l b n w = w
  | 0, w, _ => rfl
  | n + 1, w, h => by
    simp only [rowW]
    rw [h n (Nat.lt_succ_self n), if_neg (by decide)]
    exact row_no fun i hi => h i (by omega)
theorem tot_no {f : Int → Int → Bool} {a b : Int} {n2 : Nat} : ∀ {n : Nat}, (∀ i j : Nat, i < n → j < n2 → f (a + i) (b + j) = false) → totW f a b n2 n = []
  | 0, _ => rfl
  | n + 1, h => by
    rw [totW, tot_no fun i j hi hj => h i j (by omega) hj]
    exact row_no fun j hj => h n j (Nat.lt_succ_self n) hj
theorem row_ext {f g : Int → Bool} {l b : Int} : ∀ {n : Nat} {w : List (Int × Int)}, (∀ i : Nat, i < n → f (b + i) = g (b + i)) → rowW f l b n w = rowW g l b n w
  | 0, w, _ => rfl
  | n + 1, w, h => by
    simp only [rowW]
    rw [h n (Nat.lt_succ_self n), row_ext fun i hi => h i (by omega)]
theorem tot_ext {f g : Int → Int → Bool} {a b : Int} {n2 : Nat} : ∀ {n : Nat}, (∀ i j : Nat, i < n → j < n2 → f (a + i) (b + j) = g (a + i) (b + j)) → totW f a b n2 n = totW g a b n2 n
  | 0, _ => rfl
  | n + 1, h => by
    rw [totW, totW, tot_ext fun i j hi hj => h i j (by omega) hj]
    exact row_ext fun j hj => h n j (Nat.lt_succ_self n) hj
/-- an integer becomes one of an unsigned type of n bits -/
def cnU (n : Nat) (i : Int) : Int := i % 2 ^ n
def wrU (n : Nat) (l r : Int) : Bool := (decide (cnU n l < cnU n r) != decide (l < r))
/-- the first type is signed, of s bits; the second one unsigned, of n bits -/
def chkB (s n : Nat) : Bool := decide (totC (wrU n) (-(2 ^ (s - 1))) 0 (2 ^ n) (2 ^ s) = ((2 ^ (s - 1) * (2 * (2 ^ n - 1) - 2 ^ (s - 1) + 1) / 2 + 2 ^ (s - 1) : Int).toNat, some (-(2 ^ (s - 1)), 0)))
def chkC (s n : Nat) : Bool := decide (totC (wrU n) 0 (-(2 ^ (s - 1))) (2 ^ s) (2 ^ n) = ((2 ^ (s - 1) * (2 * (2 ^ n - 1) - 2 ^ (s - 1) + 1) / 2 : Int).toNat, some (0, -(2 ^ (s - 1)))))
theorem all_B : ∀ s, 2 ≤ s → s ≤ 5 → ∀ n, 2 ≤ n → n ≤ 5 → s ≤ n → chkB s n = true
  | 2, _, _, 2, _, _, _ => by decide +kernel
  | 2, _, _, 3, _, _, _ => by decide +kernel
  | 2, _, _, 4, _, _, _ => by decide +kernel
  | 2, _, _, 5, _, _, _ => by decide +kernel
  | 3, _, _, 3, _, _, _ => by decide +kernel
  | 3, _, _, 4, _, _, _ => by decide +kernel
  | 3, _, _, 5, _, _, _ => by decide +kernel
  | 4, _, _, 4, _, _, _ => by decide +kernel
  | 4, _, _, 5, _, _, _ => by decide +kernel
  | 5, _, _, 5, _, _, _ => by decide +kernel
  | 0, h, _, _, _, _, _ => absurd h (by decide)
  | 1, h, _, _, _, _, _ => absurd h (by decide)
  | s + 6, _, h, _, _, _, _ => absurd h (by omega)
  | _, _, _, 0, h, _, _ => absurd h (by decide)
  | _, _, _, 1, h, _, _ => absurd h (by decide)
  | _, _, _, n + 6, _, h, _ => absurd h (by omega)
  | 3, _, _, 2, _, _, h => absurd h (by decide)
  | 4, _, _, 2, _, _, h => absurd h (by decide)
  | 4, _, _, 3, _, _, h => absurd h (by decide)
  | 5, _, _, 2, _, _, h => absurd h (by decide)
  | 5, _, _, 3, _, _, h => absurd h (by decide)
  | 5, _, _, 4, _, _, h => absurd h (by decide)
theorem all_C : ∀ s, 2 ≤ s → s ≤ 5 → ∀ n, 2 ≤ n → n ≤ 5 → s ≤ n → chkC s n = true
  | 2, _, _, 2, _, _, _ => by decide +kernel
  | 2, _, _, 3, _, _, _ => by decide +kernel
  | 2, _, _, 4, _, _, _ => by decide +kernel
  | 2, _, _, 5, _, _, _ => by decide +kernel
  | 3, _, _, 3, _, _, _ => by decide +kernel
  | 3, _, _, 4, _, _, _ => by decide +kernel
  | 3, _, _, 5, _, _, _ => by decide +kernel
  | 4, _, _, 4, _, _, _ => by decide +kernel
  | 4, _, _, 5, _, _, _ => by decide +kernel
  | 5, _, _, 5, _, _, _ => by decide +kernel
  | 0, h, _, _, _, _, _ => absurd h (by decide)
  | 1, h, _, _, _, _, _ => absurd h (by decide)
  | s + 6, _, h, _, _, _, _ => absurd h (by omega)
  | _, _, _, 0, h, _, _ => absurd h (by decide)
  | _, _, _, 1, h, _, _ => absurd h (by decide)
  | _, _, _, n + 6, _, h, _ => absurd h (by omega)
  | 3, _, _, 2, _, _, h => absurd h (by decide)
  | 4, _, _, 2, _, _, h => absurd h (by decide)
  | 4, _, _, 3, _, _, h => absurd h (by decide)
  | 5, _, _, 2, _, _, h => absurd h (by decide)
  | 5, _, _, 3, _, _, h => absurd h (by decide)
  | 5, _, _, 4, _, _, h => absurd h (by decide)
def pairD (p : Int × Int) : PyData := .tuple [.int p.1, .int p.2]
def optP : Option (Int × Int) → PyData
  | none => .none
  | some p => pairD p
theorem Md.conv_id (m : Md) (h : m.Ok) (c : Kd) {i : Int} (h1 : m.low c ≤ i) (h2 : i ≤ m.high c) : m.conv c i = i := by
  have e := m.span h c
  unfold Md.conv
  rw [Int.emod_eq_of_lt (by omega) (by omega)]
  omega
theorem Md.conv_un (m : Md) (h : m.Ok) {c : Kd} (u : m.un c = true) (i : Int) : m.conv c i = cnU (m.b c) i := by
  have e := m.span h c
  unfold Md.conv cnU
  rw [e, m.low_un u, Int.sub_zero, Int.add_zero]
/-- all pairs of a row of each range, tried -/
def Md.tried (m : Md) (k l : Kd) : List (Int × Int) := totW (m.wr (m.com k l)) (m.low k) (m.low l) (2 ^ m.b l) (2 ^ m.b k)
theorem nat_pow_cast (n : Nat) : (((2 : Nat) ^ n : Nat) : Int) = 2 ^ n := by
  rw [Int.natCast_pow]
  rfl
theorem Md.tried_ok (m : Md) (h : m.Ok) (h5 : m.w4 ≤ 5) (k l : Kd) : ((m.tried k l).length : Int) = m.cw k l ∧ optP (m.tried k l).head? = m.fw k l := by
  have hb : ∀ z, 2 ≤ m.b z ∧ m.b z ≤ 5 := fun z => ⟨(h.b z).1, by
    have e : m.b z ≤ m.w4 := by
      obtain ⟨h0, h1, h2, h3, h4, _⟩ := h
      cases z <;> simp only [Md.b, Md.w, Kd.rk] <;> omega
    omega⟩
  have hw : m.un (m.com k l) = true → m.tried k l = totW (wrU (m.b (m.com k l))) (m.low k) (m.low l) (2 ^ m.b l) (2 ^ m.b k) := fun u => by
    unfold Md.tried
    refine tot_ext fun i j _ _ => ?_
    unfold Md.wr wrU
    rw [wrB_eq, m.conv_un h u, m.conv_un h u]
  rcases m.sgn_cases h k l with ⟨hs, hA⟩ | ⟨hs, hc, uk, ul, bl, bk⟩ | ⟨hs, nkl, hc, uk, ul, bk, bl⟩
  · have e : m.tried k l = [] := by
      refine tot_no fun i j hi hj => ?_
      have ok := m.com_ok h k l
      have ok2 := m.com_ok h l k
      rw [m.com_comm l k] at ok2
      have hk := m.span h k
      have hl := m.span h l
      have ck := nat_pow_cast (m.b k)
      have cl := nat_pow_cast (m.b l)
      have hlo : m.low (m.com k l) ≤ m.low k ∧ m.low (m.com k l) ≤ m.low l := by
        rcases hA with hu | ⟨u1, u2⟩
        · have := (m.low_sg hu).2
          exact ⟨ok.2.2 this, ok2.2.2 this⟩
        · rw [m.low_un u1, m.low_un u2]
          exact ⟨(m.low_le _).1, (m.low_le _).1⟩
      unfold Md.wr
      rw [wrB_eq, m.conv_id h _ (by omega) (by omega), m.conv_id h _ (by omega) (by omega)]
      cases decide (m.low k + ↑i < m.low l + ↑j) <;> rfl
    rw [e]
    unfold Md.cw Md.fw
    rw [hs]
    exact ⟨rfl, rfl⟩
  · have e := hw hc
    have c := tot_cnt (wrU (m.b (m.com k l))) (m.low k) (m.low l) (2 ^ m.b l) (2 ^ m.b k)
    rw [← e] at c
    have q := all_B (m.b k) (hb k).1 (hb k).2 (m.b (m.com k l)) (hb _).1 (hb _).2 bk
    rw [(m.low_sg uk).1, m.low_un ul, bl, of_decide_eq_true q] at c
    obtain ⟨c1, c2⟩ := Prod.mk.inj c
    have a0 := p2 (m.b k - 1)
    have le : (2 : Int) ^ (m.b k - 1) ≤ 2 ^ m.b (m.com k l) := by
      have : (2 : Nat) ^ (m.b k - 1) ≤ 2 ^ m.b (m.com k l) := Nat.pow_le_pow_right (by decide) (by omega)
      exact_mod_cast this
    have nn : 0 ≤ (2 : Int) ^ (m.b k - 1) * (2 * (2 ^ m.b (m.com k l) - 1) - 2 ^ (m.b k - 1) + 1) := Int.mul_nonneg (by omega) (by omega)
    rw [c2]
    unfold Md.cw Md.fw
    rw [hs]
    simp only [if_pos]
    refine ⟨?_, by rw [(m.low_sg uk).1]; rfl⟩
    rw [c1, Int.toNat_of_nonneg (by omega)]
  · have e := hw hc
    have c := tot_cnt (wrU (m.b (m.com k l))) (m.low k) (m.low l) (2 ^ m.b l) (2 ^ m.b k)
    rw [← e] at c
    have q := all_C (m.b l) (hb l).1 (hb l).2 (m.b (m.com k l)) (hb _).1 (hb _).2 bl
    rw [(m.low_sg ul).1, m.low_un uk, bk, of_decide_eq_true q] at c
    obtain ⟨c1, c2⟩ := Prod.mk.inj c
    have a0 := p2 (m.b l - 1)
    have le : (2 : Int) ^ (m.b l - 1) ≤ 2 ^ m.b (m.com k l) := by
      have : (2 : Nat) ^ (m.b l - 1) ≤ 2 ^ m.b (m.com k l) := Nat.pow_le_pow_right (by decide) (by omega)
      exact_mod_cast this
    have nn : 0 ≤ (2 : Int) ^ (m.b l - 1) * (2 * (2 ^ m.b (m.com k l) - 1) - 2 ^ (m.b l - 1) + 1) := Int.mul_nonneg (by omega) (by omega)
    rw [c2]
    unfold Md.cw Md.fw
    rw [hs]
    simp only [if_neg (Ne.symm nkl)]
    refine ⟨?_, by rw [(m.low_sg ul).1]; rfl⟩
    rw [c1, Int.toNat_of_nonneg (by omega)]
theorem pairs_lay : ∀ w : List (Int × Int), PyData.canLayAll0 (w.map pairD) = true
  | [] => by simp [PyData.canLayAll0]
  | p :: w => by
    have ih := pairs_lay w
    simp only [List.map_cons, PyData.canLayAll0, pairD, PyData.canLay0, Bool.and_true, Bool.true_and]
    exact ih
theorem pairs_depth : ∀ w : List (Int × Int), PyData.depthAll (w.map pairD) ≤ 3
  | [] => by simp [PyData.depthAll]
  | p :: w => by
    have ih := pairs_depth w
    simp only [List.map_cons, PyData.depthAll, pairD, PyData.depth]
    omega
theorem pairs_shaped (w : List (Int × Int)) : SeqAt.shaped (.list (w.map pairD)) = true := by
  have h1 := pairs_depth w
  show (PyData.canLay0 (.list (w.map pairD)) && decide (PyData.depth (.list (w.map pairD)) ≤ 64)) = true
  rw [Bool.and_eq_true]
  refine ⟨by simp only [PyData.canLay0]; exact pairs_lay w, decide_eq_true ?_⟩
  simp only [PyData.depth]
  omega
theorem pairs_nil (w : List (Int × Int)) : PyData.eqv (.list (w.map pairD)) (.list []) = decide (w = []) := by cases w <;> simp [PyData.eqv, PyData.eqvAll]
section
variable {K : PySem.W.Frag} {σ : L2.St} {H : Hp} {ta tb te : TE} {tu tz : TS} {D : Ends}
theorem dps_at : ∀ {ds : List PyData} {vs : List V}, vs.length = ds.length → (∀ (j : Nat) (d : PyData), ds[j]? = some d → ∃ v, vs[j]? = some v ∧ Dp K H v d) → DpAll K H vs ds
  | [], [], _, _ => .nil
  | d :: ds, v :: vs, hl, h => by
    obtain ⟨v2, h1, h2⟩ := h 0 d rfl
    cases h1
    exact .cons h2 (dps_at (Nat.succ.inj hl) fun j e hj => h (j + 1) e hj)
  | [], _ :: _, hl, _ => nomatch hl
  | _ :: _, [], hl, _ => nomatch hl
/-- a list of data is not the empty one -/
theorem ev_neDE {ds : List PyData} {b : Bool} (ha : EvP K ta σ H (.list ds)) (sd : SeqAt.shaped (.list ds) = true) (hq : PyData.eqv (.list ds) (.list []) = b) : Ev (tOp (rNeD K) ta (tLst tNil)) σ H (.bl (!b)) := fun H1 e1 Q q =>
  ha H1 e1 _ fun x H2 e2 hx => (el_lst (σ := σ) (H := H2) ea_nil (by decide)) H2 (Ex.refl H2) _ fun p H3 n3 e3 h3 => ⟨.list ds, .list [], dp_ex e3 _ x hx, .lst (sq_of h3) .nil, sd, by decide +kernel, by rw [hq]; exact q H3 (e2.trans e3)⟩
theorem s_forR2g {ta : TA} {j : Nat} {lo n : Int} (h : EvA ta σ H [.int lo, .int n]) (hn : -100000 ≤ lo ∧ lo ≤ 100000 ∧ -100000 ≤ n ∧ n ≤ 100000) (Pv : Nat → L2.St → Hp → Prop) (h0 : ∀ H1, Ex H H1 → Pv 0 σ H1)
    (hs : ∀ (i : Nat) σ' H', lo + (i : Int) < n → Pv i σ' H' → tu { D with nx := Pv (i + 1), ct := Pv (i + 1), bk := D.nx } (σ'.set j (some (.int (lo + (i : Int))))) H') (hd : ∀ σ' H', Pv (n - lo).toNat σ' H' → D.nx σ' H') : tFor (iRng2 ta) (gName j) tu D σ H :=
  h H (Ex.refl H) _ fun H1 e1 => ⟨lo, n, rfl, by omega, for_range (D := D) Pv (h0 H1 e1) (fun i σ' H' hi p => hs i σ' H' (by omega) p) hd⟩
theorem q_forR2g {ta : TA} {j : Nat} {lo n : Int} (h : EvA ta σ H [.int lo, .int n]) (hn : -100000 ≤ lo ∧ lo ≤ 100000 ∧ -100000 ≤ n ∧ n ≤ 100000) (Pv : Nat → L2.St → Hp → Prop) (h0 : ∀ H1, Ex H H1 → Pv 0 σ H1)
    (hs : ∀ (i : Nat) σ' H', lo + (i : Int) < n → Pv i σ' H' → tu { D with nx := Pv (i + 1), ct := Pv (i + 1), bk := tz D } (σ'.set j (some (.int (lo + (i : Int))))) H') (hd : ∀ σ' H', Pv (n - lo).toNat σ' H' → tz D σ' H') : tSeq (tFor (iRng2 ta) (gName j) tu) tz D σ H :=
  s_forR2g (D := { D with nx := tz D }) h hn Pv h0 hs hd
end
end Cf

set_option exponentiation.threshold 20000
namespace Cf
open PySem PySem.Spec PyProof.Rows L2 Evl
/-! ## mathematical values -/
def Bo.op : Bo → Int → Int → Int
  | .add, a, b => a + b | .sub, a, b => a - b | .mul, a, b => a * b
mutual
def Nd.num (g : Str → Int) : Nd → Int
  | .var x => g x
  | .lit n _ => n
  | .cast _ e => e.num g
  | .neg e => - e.num g
  | .bin o e f => o.op (e.num g) (f.num g)
  | .sh true e k => e.num g * 2 ^ k.toNat
  | .sh false e k => e.num g / 2 ^ k.toNat
  | .ite c e f => if c.tru g = true then e.num g else f.num g
  | .cmp _ _ _ => 0
  | .nt _ => 0
  | .lg _ _ _ => 0
def Nd.tru (g : Str → Int) : Nd → Bool
  | .cmp true e f => decide (e.num g < f.num g)
  | .cmp false e f => decide (e.num g ≤ f.num g)
  | .nt c => !c.tru g
  | .lg true c d => c.tru g && d.tru g
  | .lg false c d => c.tru g || d.tru g
  | .var _ => false
  | .lit _ _ => false
  | .cast _ _ => false
  | .neg _ => false
  | .bin _ _ _ => false
  | .sh _ _ _ => false
  | .ite _ _ _ => false
end
def exV (g : Str → Int) (nd : Nd) : V := if nd.isE = true then .int (nd.num g) else .bl (nd.tru g)
theorem exV_E {g : Str → Int} {nd : Nd} (h : nd.isE = true) : exV g nd = .int (nd.num g) := if_pos h
theorem exV_C {g : Str → Int} {nd : Nd} (h : nd.isE = false) : exV g nd = .bl (nd.tru g) := if_neg (by rw [h]; decide)
theorem pw_le {a b : Nat} (h : a ≤ b) : 2 ^ a ≤ 2 ^ b := Nat.pow_le_pow_right (by decide) h
theorem num_bound {g : Str → Int} (hg : ∀ x, (g x).natAbs < 2 ^ 140) : ∀ {nd : Nd}, nd.wf → (nd.num g).natAbs < 2 ^ (1140 * nd.size)
  | .var x, _ => by
    have h1 := hg x
    have h2 : 2 ^ 140 ≤ 2 ^ (1140 * (Nd.var x).size) := pw_le (by simp only [Nd.size]; omega)
    simp only [Nd.num]
    omega
  | .lit n s, w => by
    obtain ⟨w1, w2, _⟩ := w
    have h2 : 2 ^ 136 ≤ 2 ^ (1140 * (Nd.lit n s).size) := pw_le (by simp only [Nd.size]; omega)
    have h3 : n.natAbs < 2 ^ 136 := by omega
    simp only [Nd.num]
    omega
  | .cast k e, w => by
    have ih := num_bound hg w.2
    have h2 : 2 ^ (1140 * e.size) ≤ 2 ^ (1140 * (Nd.cast k e).size) := pw_le (by simp only [Nd.size]; omega)
    simp only [Nd.num]
    omega
  | .neg e, w => by
    have ih := num_bound hg w.2
    have h2 : 2 ^ (1140 * e.size) ≤ 2 ^ (1140 * (Nd.neg e).size) := pw_le (by simp only [Nd.size]; omega)
    simp only [Nd.num, Int.natAbs_neg]
    omega
  | .bin o e f, w => by
    have ih := num_bound hg w.2.2.1
    have jh := num_bound hg w.2.2.2
    have h4 : 2 ^ (1140 * e.size) ≤ 2 ^ (1140 * (e.size + f.size)) := pw_le (by omega)
    have h5 : 2 ^ (1140 * f.size) ≤ 2 ^ (1140 * (e.size + f.size)) := pw_le (by omega)
    have h6 : 2 ^ (1140 * (e.size + f.size)) * 2 ≤ 2 ^ (1140 * (Nd.bin o e f).size) := by
      rw [← Nat.pow_succ]
      exact pw_le (by simp only [Nd.size]; omega)
    cases o with
    | add => simp only [Nd.num, Bo.op]; omega
    | sub => simp only [Nd.num, Bo.op]; omega
    | mul =>
      simp only [Nd.num, Bo.op, Int.natAbs_mul]
      have h7 : (e.num g).natAbs * (f.num g).natAbs < 2 ^ (1140 * e.size) * 2 ^ (1140 * f.size) := Nat.mul_lt_mul'' ih jh
      rw [← Nat.pow_add] at h7
      have h8 : 2 ^ (1140 * e.size + 1140 * f.size) ≤ 2 ^ (1140 * (Nd.bin .mul e f).size) := pw_le (by simp only [Nd.size]; omega)
      omega
  | .sh true e k, w => by
    obtain ⟨_, we, w1, w2⟩ := w
    have ih := num_bound hg we
    have h7 : (e.num g).natAbs * 2 ^ k.toNat < 2 ^ (1140 * e.size) * 2 ^ k.toNat := Nat.mul_lt_mul_of_pos_right ih (Nat.pow_pos (by decide))
    rw [← Nat.pow_add] at h7
    have h8 : 2 ^ (1140 * e.size + k.toNat) ≤ 2 ^ (1140 * (Nd.sh true e k).size) := pw_le (by simp only [Nd.size]; omega)
    have h9 : ((2 : Int) ^ k.toNat).natAbs = 2 ^ k.toNat := by rw [Int.natAbs_pow]; rfl
    simp only [Nd.num, Int.natAbs_mul, h9]
    omega
  | .sh false e k, w => by
    have ih := num_bound hg w.2.1
    have h2 : 2 ^ (1140 * e.size) ≤ 2 ^ (1140 * (Nd.sh false e k).size) := pw_le (by simp only [Nd.size]; omega)
    have h3 := Int.natAbs_ediv_le_natAbs (e.num g) (2 ^ k.toNat)
    simp only [Nd.num]
    omega
  | .ite c e f, w => by
    have ih := num_bound hg w.2.2.2.2.1
    have jh := num_bound hg w.2.2.2.2.2
    have h4 : 2 ^ (1140 * e.size) ≤ 2 ^ (1140 * (Nd.ite c e f).size) := pw_le (by simp only [Nd.size]; omega)
    have h5 : 2 ^ (1140 * f.size) ≤ 2 ^ (1140 * (Nd.ite c e f).size) := pw_le (by simp only [Nd.size]; omega)
    simp only [Nd.num]
    split <;> omega
  | .cmp b e f, w => by simp only [Nd.num]; exact Nat.pow_pos (by decide)
  | .nt c, w => by simp only [Nd.num]; exact Nat.pow_pos (by decide)
  | .lg b c d, w => by simp only [Nd.num]; exact Nat.pow_pos (by decide)
/-- a node of two parts -/
def Nd.pair : Nd → Option (Nd × Nd)
  | .bin _ e f => some (e, f) | .cmp _ e f => some (e, f) | .lg _ c d => some (c, d) | _ => none
def preEP : List V → Hp → V → Prop := fun vs H v => ∃ g nd e f, vs = [.str nd.word, exV g e, exV g f] ∧ nd.pair = some (e, f) ∧ nd.wf ∧ nd.size ≤ 30 ∧ (∀ x, (g x).natAbs < 2 ^ 140) ∧ v = exV g nd
def preEx (K : PySem.W.Frag) : List V → Hp → V → Prop := fun vs H v => ∃ q ol g nd, vs = [.ref q, .ref ol] ∧ TreeAt H q nd ∧ nd.wf ∧ nd.size ≤ 30 ∧ nd.word ≠ "var" ∧ (∀ x, (g x).natAbs < 2 ^ 140) ∧ H ol = some (.lst (nd.parts.map (exV g))) ∧ v = exV g nd
/-- the dict has each variable's value, and its range holds it -/
def ValsOk (kvs : List (Key × V)) (rows : List Row) (g : Str → Int) : Prop := ∀ w ∈ rows, valV kvs (.inr w.name) = some (.int (g w.name)) ∧ w.low ≤ g w.name ∧ g w.name ≤ w.high
def spCVal : Sp := fun vs H Q _ => ∃ l dv rows kvs g, vs = [.ref l, .ref dv] ∧ VarsAt H l rows ∧ H dv = some (.dK kvs) ∧ ValsOk kvs rows g ∧ ∀ H', Ex H H' → Q .non H'
end Cf
namespace Cf
open PySem PySem.Spec PyProof.Rows L2 Evl
theorem ev_dnotinK {σ : L2.St} {H : Hp} {ta td : TE} {d : Addr} {kvs : List (Key × V)} {x : Str} {v : V} (hx : Ev ta σ H (.str x)) (hd : Ev td σ H (.ref d)) (h : H d = some (.dK kvs)) (hv : valV kvs (.inr x) = some v) : Ev (tDNotIn ta td) σ H (.bl false) := fun H1 e Q q =>
  hx H1 e _ fun H2 e2 => hd H2 (e.trans e2) _ fun H3 e3 => ⟨d, some v, rfl, by
    have g := DGet.k (k := .inr x) (e3 _ _ (e2 _ _ (e _ _ h)))
    rw [hv] at g
    exact g, q H3 (e2.trans e3)⟩
theorem bits_le {i : Int} {n : Nat} (h : i.natAbs < 2 ^ n) : Builtin.Int.intBits i ≤ n := by
  unfold Builtin.Int.intBits
  split
  · omega
  · rename_i hz
    have h0 : i.natAbs ≠ 0 := fun z => hz (by rw [Int.natAbs_eq_zero.mp z]; rfl)
    have := (Nat.log2_lt h0).mpr h
    omega
theorem shl_ok {i k : Int} {n : Nat} (h : i.natAbs < 2 ^ n) (hn : n ≤ 100000) (k0 : 0 ≤ k) (k1 : k < 1000) : CShl i k := by
  have := bits_le h
  exact ⟨k0, by omega⟩
theorem spEP {H : Hp} {g : Str → Int} {nd e f : Nd} (hp : nd.pair = some (e, f)) (hw : nd.wf) (hs : nd.size ≤ 30) (hg : ∀ x, (g x).natAbs < 2 ^ 140) : SpV (PV preEP) [.str nd.word, exV g e, exV g f] H (exV g nd) :=
  PV.sp fun H1 _ => ⟨g, nd, e, f, rfl, hp, hw, hs, hg, rfl⟩
theorem spEx {K : PySem.W.Frag} {H : Hp} {q ol : Addr} {g : Str → Int} {nd : Nd} (hT : TreeAt H q nd) (hw : nd.wf) (hs : nd.size ≤ 30) (hn : nd.word ≠ "var") (hg : ∀ x, (g x).natAbs < 2 ^ 140) (hl : H ol = some (.lst (nd.parts.map (exV g)))) : SpV (PV (preEx K)) [.ref q, .ref ol] H (exV g nd) :=
  PV.sp fun H1 e => ⟨q, ol, g, nd, rfl, hT.ex e, hw, hs, hn, hg, e _ _ hl, rfl⟩
end Cf
namespace Cf
open PySem PySem.Spec PyProof.Rows L2 Evl
theorem word_neg : ∀ {nd : Nd}, nd.word = "neg" → ∃ e, nd = .neg e
  | .neg e, _ => ⟨e, rfl⟩
  | .cast _ _, h => absurd h (by show ("cast" : Str) ≠ "neg"; decide)
  | .var _, h => absurd h (by show ("var" : Str) ≠ "neg"; decide)
  | .lit _ _, h => absurd h (by show ("lit" : Str) ≠ "neg"; decide)
  | .bin .add _ _, h => absurd h (by show ("add" : Str) ≠ "neg"; decide)
  | .bin .sub _ _, h => absurd h (by show ("sub" : Str) ≠ "neg"; decide)
  | .bin .mul _ _, h => absurd h (by show ("mul" : Str) ≠ "neg"; decide)
  | .sh true _ _, h => absurd h (by show ("shl" : Str) ≠ "neg"; decide)
  | .sh false _ _, h => absurd h (by show ("shr" : Str) ≠ "neg"; decide)
  | .cmp true _ _, h => absurd h (by show ("less" : Str) ≠ "neg"; decide)
  | .cmp false _ _, h => absurd h (by show ("most" : Str) ≠ "neg"; decide)
  | .lg true _ _, h => absurd h (by show ("and" : Str) ≠ "neg"; decide)
  | .lg false _ _, h => absurd h (by show ("or" : Str) ≠ "neg"; decide)
  | .ite _ _ _, h => absurd h (by show ("if" : Str) ≠ "neg"; decide)
  | .nt _, h => absurd h (by show ("not" : Str) ≠ "neg"; decide)
end Cf
namespace Cf
open PySem PySem.Spec PyProof.Rows L2 Evl
theorem bin_ne (o : Bo) : o.s ≠ "shl" ∧ o.s ≠ "shr" ∧ o.s ≠ "not" ∧ o.s ≠ "if" := by cases o <;> decide
theorem cmp_ne (o : Bool) : cmpS o ≠ "shl" ∧ cmpS o ≠ "shr" ∧ cmpS o ≠ "not" ∧ cmpS o ≠ "if" := by cases o <;> decide
theorem lg_ne (o : Bool) : lgS o ≠ "shl" ∧ lgS o ≠ "shr" ∧ lgS o ≠ "not" ∧ lgS o ≠ "if" := by cases o <;> decide
end Cf
namespace Cf
open PySem PySem.Spec PyProof.Rows L2 Evl
def preMath (K : PySem.W.Frag) : List V → Hp → V → Prop := fun vs H v => ∃ l p dv rows nd kvs g, vs = [.ref l, .ref p, .ref dv] ∧ VarsAt H l rows ∧ rows.length ≤ 100 ∧ (∀ w ∈ rows, nameOk w.name = true) ∧ (rows.map Row.name).Nodup ∧ (∀ w ∈ rows, w.low ≤ w.high) ∧ TreeAt H p nd ∧ nd.wf ∧ nd.size ≤ 30 ∧ (∀ y ∈ nd.vars, y ∈ rows.map Row.name) ∧ nd.vars.Nodup ∧
  H dv = some (.dK kvs) ∧ ValsOk kvs rows g ∧ (∀ x, (g x).natAbs < 2 ^ 140) ∧ v = exV g nd
end Cf
namespace Cf
open PySem PySem.Spec PyProof.Rows L2 Evl
/-! ## arithmetic of bools -/
def rBB (g : Int → Int → Int) : R2 := fun x y H Q => ∃ a b : Bool, x = .bl a ∧ y = .bl b ∧ Q (.int (g (b2i a) (b2i b))) H
theorem op_add_bb {X : Cx} : OpR X (binaryOp .Add) (rBB fun i j => i + j) := by
  intro pins s σ H x y v u Q I rx ry h
  obtain ⟨a, b, rfl, rfl, q⟩ := h
  cases rx
  cases ry
  exact add_bool ⟨.int (b2i a + b2i b), H, I.tok _, ⟨_, rfl⟩, q⟩
theorem op_sub_bb {X : Cx} : OpR X (binaryOp .Sub) (rBB fun i j => i - j) := by
  intro pins s σ H x y v u Q I rx ry h
  obtain ⟨a, b, rfl, rfl, q⟩ := h
  cases rx
  cases ry
  exact sub_bool ⟨.int (b2i a - b2i b), H, I.tok _, ⟨_, rfl⟩, q⟩
theorem op_mul_bb {X : Cx} : OpR X (binaryOp .Mult) (rBB fun i j => i * j) := by
  intro pins s σ H x y v u Q I rx ry h
  obtain ⟨a, b, rfl, rfl, q⟩ := h
  cases rx
  cases ry
  exact mul_bool ⟨.int (b2i a * b2i b), H, I.tok _, ⟨_, rfl⟩, q⟩
theorem op_lt_bb {X : Cx} : OpR X (compareOp .Lt) (fun x y H Q => ∃ a b : Bool, x = .bl a ∧ y = .bl b ∧ Q (.bl (decide (b2i a < b2i b))) H) := by
  intro pins s σ H x y v u Q I rx ry h
  obtain ⟨a, b, rfl, rfl, q⟩ := h
  cases rx
  cases ry
  exact lt_bool ⟨.bl (decide (b2i a < b2i b)), H, I, rfl, q⟩
theorem op_le_bb {X : Cx} : OpR X (compareOp .LtE) (fun x y H Q => ∃ a b : Bool, x = .bl a ∧ y = .bl b ∧ Q (.bl (decide (b2i a ≤ b2i b))) H) := by
  intro pins s σ H x y v u Q I rx ry h
  obtain ⟨a, b, rfl, rfl, q⟩ := h
  cases rx
  cases ry
  exact le_bool ⟨.bl (decide (b2i a ≤ b2i b)), H, I, rfl, q⟩
/-- either of two rules, as the readings need -/
theorem op_either {X : Cx} {f : Value → Value → Sem Value} {r t : R2} (a : OpR X f r) (b : OpR X f t) : OpR X f (fun x y H Q => r x y H Q ∨ t x y H Q) := by
  intro pins s σ H x y v u Q I rx ry h
  rcases h with h | h
  · exact a pins s σ H x y v u Q I rx ry h
  · exact b pins s σ H x y v u Q I rx ry h
end Cf
namespace Cf
open PySem PySem.Spec PyProof.Rows L2 Evl
/-- k14's own reading of a node -/
def preLE (K : PySem.W.Frag) (d : Nat) : List V → Hp → V → Prop := fun vs H v => ∃ q gv kvs g nd, vs = [.ref q, .ref gv] ∧ TreeAt H q nd ∧ nd.wf ∧ nd.size ≤ d ∧ nd.size ≤ 30 ∧ H gv = some (.dK kvs) ∧ (∀ x ∈ nd.vars, valV kvs (.inr x) = some (.int (g x))) ∧ (∀ x, (g x).natAbs < 2 ^ 140) ∧ v = exV g nd
theorem spLE {K : PySem.W.Frag} {H : Hp} {q gv : Addr} {kvs : List (Key × V)} {g : Str → Int} {nd : Nd} {d : Nat} (hT : TreeAt H q nd) (hw : nd.wf) (hd : nd.size ≤ d) (hs : nd.size ≤ 30) (hk : H gv = some (.dK kvs)) (hv : ∀ x ∈ nd.vars, valV kvs (.inr x) = some (.int (g x))) (hg : ∀ x, (g x).natAbs < 2 ^ 140) : SpV (PV (preLE K d)) [.ref q, .ref gv] H (exV g nd) :=
  PV.sp fun H1 e => ⟨q, gv, kvs, g, nd, rfl, hT.ex e, hw, hd, hs, e _ _ hk, hv, hg, rfl⟩
end Cf
namespace Cf
open PySem PySem.Spec PyProof.Rows L2 Evl
theorem pow2_step (i : Nat) : (2 : Int) ^ i * 2 = 2 ^ (i + 1) := (Int.pow_succ 2 i).symm
theorem pow2_abs (i : Nat) : ((2 : Int) ^ i).natAbs = 2 ^ i := by rw [Int.natAbs_pow]; rfl
theorem rv_eitherI {C : Int → Int → Prop} {h : Int → Int → V} {t : R2} {i j : Int} {H : Hp} (c : C i j) : RV (fun x y H Q => rI C h x y H Q ∨ t x y H Q) (.int i) (.int j) H (h i j) := fun H1 _ Q q => .inl ⟨i, j, rfl, rfl, c, q H1 (Ex.refl H1)⟩
theorem rv_eitherI0 {h : Int → Int → V} {t : R2} {i j : Int} {H : Hp} : RV (fun x y H Q => rI0 h x y H Q ∨ t x y H Q) (.int i) (.int j) H (h i j) := fun H1 _ Q q => .inl ⟨i, j, rfl, rfl, q H1 (Ex.refl H1)⟩
theorem rv_eitherB {g : Int → Int → Int} {r : R2} {a b : Bool} {H : Hp} : RV (fun x y H Q => r x y H Q ∨ rBB g x y H Q) (.bl a) (.bl b) H (.int (g (b2i a) (b2i b))) := fun H1 _ Q q => .inr ⟨a, b, rfl, rfl, q H1 (Ex.refl H1)⟩
theorem rv_eitherL {r : R2} {a b : Bool} {H : Hp} : RV (fun x y H Q => r x y H Q ∨ ∃ a b : Bool, x = .bl a ∧ y = .bl b ∧ Q (.bl (decide (b2i a < b2i b))) H) (.bl a) (.bl b) H (.bl (decide (b2i a < b2i b))) := fun H1 _ Q q => .inr ⟨a, b, rfl, rfl, q H1 (Ex.refl H1)⟩
theorem rv_eitherM {r : R2} {a b : Bool} {H : Hp} : RV (fun x y H Q => r x y H Q ∨ ∃ a b : Bool, x = .bl a ∧ y = .bl b ∧ Q (.bl (decide (b2i a ≤ b2i b))) H) (.bl a) (.bl b) H (.bl (decide (b2i a ≤ b2i b))) := fun H1 _ Q q => .inr ⟨a, b, rfl, rfl, q H1 (Ex.refl H1)⟩
end Cf
namespace Cf
open PySem PySem.Spec PyProof.Rows L2 Evl
theorem word_sh : ∀ {nd : Nd}, inV (.str nd.word) [.str "shl", .str "shr"] = true → ∃ b e k, nd = .sh b e k
  | .sh b e k, _ => ⟨b, e, k, rfl⟩
  | .var _, h => absurd h (by show ¬ (inV (.str "var") _ = true); decide)
  | .lit _ _, h => absurd h (by show ¬ (inV (.str "lit") _ = true); decide)
  | .cast _ _, h => absurd h (by show ¬ (inV (.str "cast") _ = true); decide)
  | .neg _, h => absurd h (by show ¬ (inV (.str "neg") _ = true); decide)
  | .ite _ _ _, h => absurd h (by show ¬ (inV (.str "if") _ = true); decide)
  | .nt _, h => absurd h (by show ¬ (inV (.str "not") _ = true); decide)
  | .bin .add _ _, h => absurd h (by show ¬ (inV (.str "add") _ = true); decide)
  | .bin .sub _ _, h => absurd h (by show ¬ (inV (.str "sub") _ = true); decide)
  | .bin .mul _ _, h => absurd h (by show ¬ (inV (.str "mul") _ = true); decide)
  | .cmp true _ _, h => absurd h (by show ¬ (inV (.str "less") _ = true); decide)
  | .cmp false _ _, h => absurd h (by show ¬ (inV (.str "most") _ = true); decide)
  | .lg true _ _, h => absurd h (by show ¬ (inV (.str "and") _ = true); decide)
  | .lg false _ _, h => absurd h (by show ¬ (inV (.str "or") _ = true); decide)
theorem word_ite : ∀ {nd : Nd}, nd.word = "if" → ∃ c e f, nd = .ite c e f
  | .ite c e f, _ => ⟨c, e, f, rfl⟩
  | .cast _ _, h => absurd h (by show ("cast" : Str) ≠ "if"; decide)
  | .var _, h => absurd h (by show ("var" : Str) ≠ "if"; decide)
  | .lit _ _, h => absurd h (by show ("lit" : Str) ≠ "if"; decide)
  | .bin .add _ _, h => absurd h (by show ("add" : Str) ≠ "if"; decide)
  | .bin .sub _ _, h => absurd h (by show ("sub" : Str) ≠ "if"; decide)
  | .bin .mul _ _, h => absurd h (by show ("mul" : Str) ≠ "if"; decide)
  | .sh true _ _, h => absurd h (by show ("shl" : Str) ≠ "if"; decide)
  | .sh false _ _, h => absurd h (by show ("shr" : Str) ≠ "if"; decide)
  | .cmp true _ _, h => absurd h (by show ("less" : Str) ≠ "if"; decide)
  | .cmp false _ _, h => absurd h (by show ("most" : Str) ≠ "if"; decide)
  | .lg true _ _, h => absurd h (by show ("and" : Str) ≠ "if"; decide)
  | .lg false _ _, h => absurd h (by show ("or" : Str) ≠ "if"; decide)
  | .neg _, h => absurd h (by show ("neg" : Str) ≠ "if"; decide)
  | .nt _, h => absurd h (by show ("not" : Str) ≠ "if"; decide)
theorem pair_at {H : Hp} : ∀ {nd : Nd} {p : Addr}, TreeAt H p nd → nd.wf → nd.word ≠ "var" → nd.word ≠ "lit" → nd.word ≠ "cast" → nd.word ≠ "if" → inV (.str nd.word) [.str "neg", .str "not"] = false → inV (.str nd.word) [.str "shl", .str "shr"] = false →
    ∃ xs q r e f, H p = some (.tup xs) ∧ xs[1]? = some (.ref q) ∧ xs[2]? = some (.ref r) ∧ TreeAt H q e ∧ TreeAt H r f ∧ e ∈ nd.parts ∧ f ∈ nd.parts ∧ nd.pair = some (e, f)
  | .bin _ e f, _, ⟨q, r, h, t, u⟩, _, _, _, _, _, _, _ => ⟨_, q, r, e, f, h, rfl, rfl, t, u, List.mem_cons_self .., List.mem_cons_of_mem _ (List.mem_cons_self ..), rfl⟩
  | .cmp _ e f, _, ⟨q, r, h, t, u⟩, _, _, _, _, _, _, _ => ⟨_, q, r, e, f, h, rfl, rfl, t, u, List.mem_cons_self .., List.mem_cons_of_mem _ (List.mem_cons_self ..), rfl⟩
  | .lg _ e f, _, ⟨q, r, h, t, u⟩, _, _, _, _, _, _, _ => ⟨_, q, r, e, f, h, rfl, rfl, t, u, List.mem_cons_self .., List.mem_cons_of_mem _ (List.mem_cons_self ..), rfl⟩
  | .var _, _, _, _, h, _, _, _, _, _ => absurd rfl h
  | .lit _ _, _, _, _, _, h, _, _, _, _ => absurd rfl h
  | .cast _ _, _, _, _, _, _, h, _, _, _ => absurd rfl h
  | .ite _ _ _, _, _, _, _, _, _, h, _, _ => absurd rfl h
  | .neg _, _, _, _, _, _, _, _, h, _ => absurd h (by show ¬ (inV (.str "neg") _ = false); decide)
  | .nt _, _, _, _, _, _, _, _, h, _ => absurd h (by show ¬ (inV (.str "not") _ = false); decide)
  | .sh true _ _, _, _, _, _, _, _, _, _, h => absurd h (by show ¬ (inV (.str "shl") _ = false); decide)
  | .sh false _ _, _, _, _, _, _, _, _, _, h => absurd h (by show ¬ (inV (.str "shr") _ = false); decide)
end Cf
namespace Cf
open PySem PySem.Spec PyProof.Rows L2 Evl
def sumL (a b c d e : V) : List (Key × V) := [(.inr "add", a), (.inr "sub", b), (.inr "mul", c), (.inr "less", d), (.inr "most", e)]
theorem pair_vals {g : Str → Int} : ∀ {nd e f : Nd}, nd.pair = some (e, f) → nd.wf →
    (∃ a b : Int, exV g e = .int a ∧ exV g f = .int b ∧ e.num g = a ∧ f.num g = b ∧ e.wf ∧ f.wf ∧ valV (sumL (.int (a + b)) (.int (a - b)) (.int (a * b)) (.bl (decide (a < b))) (.bl (decide (a ≤ b)))) (.inr nd.word) = some (exV g nd)) ∨
    (∃ a b : Bool, exV g e = .bl a ∧ exV g f = .bl b ∧ ((nd.word = "and" ∧ exV g nd = .bl (a && b)) ∨ (nd.word = "or" ∧ exV g nd = .bl (a || b))))
  | .bin .add e f, _, _, h, w => by cases (Option.some.inj h); exact .inl ⟨_, _, exV_E w.1, exV_E w.2.1, rfl, rfl, w.2.2.1, w.2.2.2, rfl⟩
  | .bin .sub e f, _, _, h, w => by cases (Option.some.inj h); exact .inl ⟨_, _, exV_E w.1, exV_E w.2.1, rfl, rfl, w.2.2.1, w.2.2.2, rfl⟩
  | .bin .mul e f, _, _, h, w => by cases (Option.some.inj h); exact .inl ⟨_, _, exV_E w.1, exV_E w.2.1, rfl, rfl, w.2.2.1, w.2.2.2, rfl⟩
  | .cmp true e f, _, _, h, w => by cases (Option.some.inj h); exact .inl ⟨_, _, exV_E w.1, exV_E w.2.1, rfl, rfl, w.2.2.1, w.2.2.2, rfl⟩
  | .cmp false e f, _, _, h, w => by cases (Option.some.inj h); exact .inl ⟨_, _, exV_E w.1, exV_E w.2.1, rfl, rfl, w.2.2.1, w.2.2.2, rfl⟩
  | .lg true e f, _, _, h, w => by cases (Option.some.inj h); exact .inr ⟨_, _, exV_C w.1, exV_C w.2.1, .inl ⟨rfl, rfl⟩⟩
  | .lg false e f, _, _, h, w => by cases (Option.some.inj h); exact .inr ⟨_, _, exV_C w.1, exV_C w.2.1, .inr ⟨rfl, rfl⟩⟩
  | .var _, _, _, h, _ => nomatch h
  | .lit _ _, _, _, h, _ => nomatch h
  | .cast _ _, _, _, h, _ => nomatch h
  | .neg _, _, _, h, _ => nomatch h
  | .sh _ _ _, _, _, h, _ => nomatch h
  | .ite _ _ _, _, _, h, _ => nomatch h
  | .nt _, _, _, h, _ => nomatch h
end Cf
namespace Cf
open PySem PySem.Spec PyProof.Rows L2 Evl
theorem ev_dinV {σ : L2.St} {H : Hp} {ta td : TE} {d : Addr} {kvs : List (Key × V)} {x : Str} {b : Bool} (hx : Ev ta σ H (.str x)) (hd : Ev td σ H (.ref d)) (h : H d = some (.dK kvs)) (hv : (valV kvs (.inr x)).isSome = b) : Ev (tDIn ta td) σ H (.bl b) := fun H1 e Q q =>
  hx H1 e _ fun H2 e2 => hd H2 (e.trans e2) _ fun H3 e3 => ⟨d, _, rfl, DGet.k (k := .inr x) (e3 _ _ (e2 _ _ (e _ _ h))), by
    rw [hv]
    exact q H3 (e2.trans e3)⟩
end Cf

set_option exponentiation.threshold 20000
namespace Cf
open PySem PySem.Spec PyProof.Rows L2 Evl
/-! ## expressions drawn out of a pool, with leaves that stand in a list -/
abbrev Lf := Addr × Nd
def lfV (L : List Lf) : List V := L.map fun x => V.ref x.1
def stL (l : Addr) (c : Nat) : List (Key × V) := [(.inr "leaves", .ref l), (.inr "more", .int (c : Nat))]
def LeafOk (x : Nd) : Prop := (∃ y, x = .var y) ∨ (∃ n s, x = .lit n s ∧ x.wf)
theorem LeafOk.all {x : Nd} (h : LeafOk x) : x.leaves = 1 ∧ x.size = 1 ∧ x.isE = true ∧ x.wf := by
  rcases h with ⟨y, rfl⟩ | ⟨n, s, rfl, w⟩
  · exact ⟨rfl, rfl, rfl, trivial⟩
  · exact ⟨rfl, rfl, rfl, w⟩
structure PSt (H : Hp) (r st l : Addr) (n : Nat) (L : List Lf) (c : Nat) : Prop where
  g : Rng H r n
  hs : H st = some (.dK (stL l c))
  hl : H l = some (.lst (lfV L))
  sr : st ≠ r
  lr : l ≠ r
  sl : st ≠ l
  tr : ∀ x ∈ L, TreeAt H x.1 x.2 ∧ LeafOk x.2
theorem PSt.ex {H H' : Hp} {r st l : Addr} {n : Nat} {L : List Lf} {c : Nat} (p : PSt H r st l n L c) (e : Ex H H') : PSt H' r st l n L c := ⟨p.g.ex e, e _ _ p.hs, e _ _ p.hl, p.sr, p.lr, p.sl, fun x hx => ⟨(p.tr x hx).1.ex e, (p.tr x hx).2⟩⟩
theorem PSt.bu {H H' : Hp} {r st l : Addr} {n k : Nat} {L : List Lf} {c : Nat} (p : PSt H r st l n L c) (e : Bu r H H') (g : Rng H' r k) : PSt H' r st l k L c := ⟨g, e _ _ p.sr p.hs, e _ _ p.lr p.hl, p.sr, p.lr, p.sl, fun x hx => ⟨(p.tr x hx).1.tk (TupK.bu e p.g), (p.tr x hx).2⟩⟩
theorem PSt.le {H : Hp} {r st l : Addr} {n k : Nat} {L : List Lf} {c : Nat} (p : PSt H r st l n L c) (h : n ≤ k) : PSt H r st l k L c := ⟨p.g.le h, p.hs, p.hl, p.sr, p.lr, p.sl, p.tr⟩
theorem PSt.ne {H : Hp} {r st l q : Addr} {n : Nat} {L : List Lf} {c : Nat} (o : PSt H r st l n L c) {ys : List V} (h : H q = some (.tup ys)) : q ≠ r ∧ q ≠ st ∧ q ≠ l :=
  ⟨o.g.ne_tup h, ne_of h o.hs (fun z => nomatch z), ne_of h o.hl (fun z => nomatch z)⟩
theorem PSt.tk {H H' : Hp} {r st l : Addr} {n : Nat} {L : List Lf} {c : Nat} (o : PSt H r st l n L c) (e : Bs r st l H H') : TupK H H' := fun q ys h => by
  obtain ⟨n1, n2, n3⟩ := o.ne h
  exact e q _ n1 n2 n3 h
theorem PSt.fr {H : Hp} {r st l q : Addr} {n : Nat} {L : List Lf} {c : Nat} (o : PSt H r st l n L c) (h : H q = none) : q ≠ r ∧ q ≠ st ∧ q ≠ l := by
  obtain ⟨d, s2, c, z, _⟩ := o.g
  exact ⟨(fun y => by rw [y, z] at h; exact nomatch h), (fun y => by rw [y, o.hs] at h; exact nomatch h), (fun y => by rw [y, o.hl] at h; exact nomatch h)⟩
/-- the state's number falls -/
theorem PSt.put {H : Hp} {r st l : Addr} {n : Nat} {L : List Lf} {c c' : Nat} (p : PSt H r st l n L c) : PSt (upd H st (.dK (stL l c'))) r st l n L c' ∧ Bs r st l H (upd H st (.dK (stL l c'))) := by
  have hb : Bs r st l H (upd H st (.dK (stL l c'))) := fun q o n1 n2 n3 h => by rw [upd_ne n2]; exact h
  refine ⟨⟨?_, upd_same, by rw [upd_ne (Ne.symm p.sl)]; exact p.hl, p.sr, p.lr, p.sl, fun x hx => ⟨(p.tr x hx).1.tk (p.tk hb), (p.tr x hx).2⟩⟩, hb⟩
  obtain ⟨d, s, k, a, b⟩ := p.g
  exact ⟨d, s, k, by rw [upd_ne (Ne.symm p.sr)]; exact a, b⟩
def rsL (L : List Lf) (a : Nat) : List Lf := L.take (L.length - a)
def lvL (L : List Lf) (a : Nat) : List Lf := L.drop (L.length - a)
def lvV (L : List Lf) : List Str := L.flatMap fun x => x.2.vars
theorem rs_len {L : List Lf} {a : Nat} (h : a ≤ L.length) : (rsL L a).length = L.length - a := by
  unfold rsL
  rw [List.length_take]
  omega
theorem rs_two {L : List Lf} {a b : Nat} (h : a + b ≤ L.length) : rsL (rsL L a) b = rsL L (a + b) := by
  have e := rs_len (L := L) (a := a) (by omega)
  show (rsL L a).take ((rsL L a).length - b) = _
  rw [e]
  unfold rsL
  rw [List.take_take]
  congr 1
  omega
theorem lv_two {L : List Lf} {a b : Nat} (h : a + b ≤ L.length) : lvL L (a + b) = lvL (rsL L a) b ++ lvL L a := by
  have e := rs_len (L := L) (a := a) (by omega)
  show L.drop (L.length - (a + b)) = (rsL L a).drop ((rsL L a).length - b) ++ L.drop (L.length - a)
  rw [e]
  unfold rsL
  have h1 : L.length - (a + b) = L.length - a - b := by omega
  rw [h1]
  have h2 : L.drop (L.length - a - b) = (L.take (L.length - a) ++ L.drop (L.length - a)).drop (L.length - a - b) := by rw [List.take_append_drop]
  rw [h2, List.drop_append_of_le_length (by rw [List.length_take]; omega)]
theorem lvV_app (A B : List Lf) : lvV (A ++ B) = lvV A ++ lvV B := List.flatMap_append
theorem lv_perm {L : List Lf} {a b : Nat} {u v : List Str} (h : a + b ≤ L.length) (hu : u.Perm (lvV (lvL L a))) (hv : v.Perm (lvV (lvL (rsL L a) b))) : (u ++ v).Perm (lvV (lvL L (a + b))) := by
  rw [lv_two h, lvV_app]
  exact (hu.append hv).trans List.perm_append_comm
theorem rs_one {L : List Lf} {x : Lf} (hx : L[L.length - 1]? = some x) : L.dropLast = rsL L 1 ∧ lvL L 1 = [x] := by
  refine ⟨List.dropLast_eq_take, ?_⟩
  have hl : L.length - 1 < L.length := (List.getElem?_eq_some_iff.mp hx).1
  unfold lvL
  rw [List.drop_eq_getElem_cons hl]
  have e : L[L.length - 1] = x := (List.getElem?_eq_some_iff.mp hx).2
  rw [e, List.drop_eq_nil_of_le (by omega)]
/-- bits that its value may have, from 136 at a leaf on -/
def Nd.sb : Nd → Nat
  | .var _ => 136 | .lit _ _ => 136 | .cast _ e => e.sb | .neg e => e.sb | .bin _ e f => e.sb + f.sb + 1 | .sh _ e k => e.sb + k.toNat | .ite c e f => c.sb + e.sb + f.sb | .cmp _ e f => e.sb + f.sb | .nt c => c.sb | .lg _ c d => c.sb + d.sb
/-- its variables and literals in order -/
abbrev Atom := Sum Str (Int × Str)
def Nd.atoms : Nd → List Atom
  | .var x => [.inl x] | .lit n s => [.inr (n, s)] | .cast _ e => e.atoms | .neg e => e.atoms | .bin _ e f => e.atoms ++ f.atoms | .sh _ e _ => e.atoms | .ite c e f => c.atoms ++ (e.atoms ++ f.atoms) | .cmp _ e f => e.atoms ++ f.atoms | .nt c => c.atoms | .lg _ c d => c.atoms ++ d.atoms
def atVar : Atom → Option Str
  | .inl x => some x | .inr _ => none
theorem atoms_vars : ∀ nd : Nd, nd.vars = nd.atoms.filterMap atVar
  | .var x => rfl
  | .lit n s => rfl
  | .cast _ e => atoms_vars e
  | .neg e => atoms_vars e
  | .bin _ e f => by show e.vars ++ f.vars = (e.atoms ++ f.atoms).filterMap atVar; rw [List.filterMap_append, ← atoms_vars e, ← atoms_vars f]
  | .sh _ e _ => atoms_vars e
  | .ite c e f => by show c.vars ++ (e.vars ++ f.vars) = (c.atoms ++ (e.atoms ++ f.atoms)).filterMap atVar; rw [List.filterMap_append, List.filterMap_append, ← atoms_vars c, ← atoms_vars e, ← atoms_vars f]
  | .cmp _ e f => by show e.vars ++ f.vars = (e.atoms ++ f.atoms).filterMap atVar; rw [List.filterMap_append, ← atoms_vars e, ← atoms_vars f]
  | .nt c => atoms_vars c
  | .lg _ c d => by show c.vars ++ d.vars = (c.atoms ++ d.atoms).filterMap atVar; rw [List.filterMap_append, ← atoms_vars c, ← atoms_vars d]
def lvA (L : List Lf) : List Atom := L.flatMap fun x => x.2.atoms
theorem lvA_app (A B : List Lf) : lvA (A ++ B) = lvA A ++ lvA B := List.flatMap_append
theorem lvV_A : ∀ L : List Lf, lvV L = (lvA L).filterMap atVar
  | [] => rfl
  | x :: L => by
    have ih := lvV_A L
    show x.2.vars ++ lvV L = (x.2.atoms ++ lvA L).filterMap atVar
    rw [List.filterMap_append, ← ih, ← atoms_vars]
theorem lvA_perm {L : List Lf} {a b : Nat} {u v : List Atom} (h : a + b ≤ L.length) (hu : u.Perm (lvA (lvL L a))) (hv : v.Perm (lvA (lvL (rsL L a) b))) : (u ++ v).Perm (lvA (lvL L (a + b))) := by
  rw [lv_two h, lvA_app]
  exact (hu.append hv).trans List.perm_append_comm
/-- what a drawn expression is, and what it takes -/
structure Pk (nd : Nd) (many : Nat) (L : List Lf) (c c' : Nat) : Prop where
  wf : nd.wf
  lv : nd.leaves = many
  sz : nd.size + c' + 1 ≤ 2 * many + c
  at_ : nd.atoms.Perm (lvA (lvL L many))
  cl : c' ≤ c
  sb : nd.sb ≤ 136 * nd.size
theorem Pk.vs {nd : Nd} {many : Nat} {L : List Lf} {c c' : Nat} (k : Pk nd many L c c') : nd.vars.Perm (lvV (lvL L many)) := by
  rw [atoms_vars, lvV_A]
  exact k.at_.filterMap _
theorem LeafOk.sb {x : Nd} (h : LeafOk x) : x.sb ≤ 136 * x.size := by
  rcases h with ⟨y, rfl⟩ | ⟨n, s, rfl, w⟩
  · exact Nat.le_refl _
  · exact Nat.le_refl _
def spPT (d : Nat) : Sp := fun vs H Q _ => ∃ r st l many n L c truth, vs = [.ref r, .ref st, .int (many : Nat), .bl truth] ∧ 1 ≤ many ∧ (truth = true → 2 ≤ many) ∧ many ≤ L.length ∧ L.length ≤ 100 ∧ c ≤ 20 ∧ many + c ≤ d ∧ n + 10 * (2 * many + c) < 2 ^ 50 ∧ PSt H r st l n L c ∧
  ∀ p nd c' H', Bs r st l H H' → PSt H' r st l (n + 10 * (2 * many + c) - 10 * (c' + 1)) (rsL L many) c' → TreeAt H' p nd → nd.isE = !truth → Pk nd many L c c' → Q (.ref p) H'
theorem no_pt {vs : List V} {H : Hp} {Q : VK} {E : XK} (h : spPT 0 vs H Q E) : False := by
  obtain ⟨r, st, l, many, n, L, c, truth, _, h1, _, _, _, _, h2, _⟩ := h
  omega
theorem pt_at {d : Nat} {σ : L2.St} {H : Hp} {ta : TA} {E : XK} {Q : VK} {r st l : Addr} {many n c : Nat} {L : List Lf} {truth : Bool} (h : EvA ta σ H [.ref r, .ref st, .int (many : Nat), .bl truth]) (h1 : 1 ≤ many) (h2 : truth = true → 2 ≤ many) (h3 : many ≤ L.length) (h4 : L.length ≤ 100) (h5 : c ≤ 20) (h6 : many + c ≤ d)
    (hn : n + 10 * (2 * many + c) < 2 ^ 50) (o : PSt H r st l n L c)
    (k : ∀ p nd c' H', Bs r st l H H' → PSt H' r st l (n + 10 * (2 * many + c) - 10 * (c' + 1)) (rsL L many) c' → TreeAt H' p nd → nd.isE = !truth → Pk nd many L c c' → Q (.ref p) H') : tCall (spPT d) [] E ta σ H Q :=
  h H (Ex.refl H) _ fun H1 e => ⟨r, st, l, many, n, L, c, truth, rfl, h1, h2, h3, h4, h5, h6, hn, o.ex e, fun p nd c' H' bs => k p nd c' H' ((Bs.of e).trans bs)⟩
theorem ev_more {σ : L2.St} {H : Hp} {r st l : Addr} {n c : Nat} {L : List Lf} {i : Nat} (hi : σ[i]? = some (some (.ref st))) (o : PSt H r st l n L c) : Ev (tDGet (tVar i) (tC (.str "more"))) σ H (.int (c : Nat)) := ev_dgetK (ev_var hi) o.hs rfl
theorem ev_leaves {σ : L2.St} {H : Hp} {r st l : Addr} {n c : Nat} {L : List Lf} {i : Nat} (hi : σ[i]? = some (some (.ref st))) (o : PSt H r st l n L c) : Ev (tDGet (tVar i) (tC (.str "leaves"))) σ H (.ref l) := ev_dgetK (ev_var hi) o.hs rfl
/-- one of the words of a written list -/
theorem word_draw {K : PySem.W.Frag} {σ : L2.St} {H : Hp} {r : Addr} {n j : Nat} {E : XK} {Q : VK} {tl : TA} {ws : List Str} {m : Int} (hl : EvA tl σ H (ws.map V.str)) (hz : ws.length ≤ 100) (hm : m = (ws.length : Nat)) (h0 : 1 ≤ ws.length) (g : Rng H r n) (hn : n < 2 ^ 60) (hj : σ[j]? = some (some (.ref r)))
    (k : ∀ H' s, Bu r H H' → Rng H' r (n + 1) → s ∈ ws → Q (.str s) H') : tOp (rIxL K) (tLst tl) (tCall spDraw [] E (tCons (tVar j) (tCons (tC (.int m)) tNil))) σ H Q := by
  refine op_raw ((el_lst hl (by rw [List.length_map]; omega)) H (Ex.refl H) _ fun t H1 n1 e1 h1 => ?_)
  have g1 := g.ex e1
  have htr : t ≠ r := g.ne_none n1
  refine draw_at (l := m) (n := n) (ea_cons (ev_var hj) (ea_cons ev_c ea_nil)) (by omega) (log_small (by omega)) hn g1 fun H2 v b2 g2 v0 v1 => ?_
  obtain ⟨i, rfl⟩ : ∃ i : Nat, v = (i : Int) := ⟨v.toNat, by omega⟩
  have hi : i < ws.length := by omega
  exact ⟨t, _, (i : Int), .str ws[i], rfl, rfl, sq_of (b2 _ _ htr h1), atI_nat (by rw [List.getElem?_map, List.getElem?_eq_getElem hi]; rfl), k H2 _ ((Bu.of e1).trans b2) g2 (List.getElem_mem hi)⟩
theorem Pk.two {a b many c c1 c2 : Nat} {L : List Lf} {nd1 nd2 N : Nd} (k1 : Pk nd1 a L c c1) (k2 : Pk nd2 b (rsL L a) c1 c2) (hab : a + b = many) (hl : many ≤ L.length) (hwf : N.wf) (hv : N.atoms = nd1.atoms ++ nd2.atoms) (hlv : N.leaves = nd1.leaves + nd2.leaves) (hs : N.size = 1 + nd1.size + nd2.size) (hb : N.sb ≤ nd1.sb + nd2.sb + 136) : Pk N many L c c2 := by
  subst hab
  refine ⟨hwf, by rw [hlv, k1.lv, k2.lv], by have := k1.sz; have := k2.sz; omega, ?_, Nat.le_trans k2.cl k1.cl, by have := k1.sb; have := k2.sb; omega⟩
  rw [hv]
  exact lvA_perm hl k1.at_ k2.at_
theorem Pk.one {many c c' : Nat} {L : List Lf} {nd N : Nd} (k1 : Pk nd many L (c - 1) c') (hc : 1 ≤ c) (hwf : N.wf) (hv : N.atoms = nd.atoms) (hlv : N.leaves = nd.leaves) (hs : N.size = 1 + nd.size) (hb : N.sb ≤ nd.sb + 136) : Pk N many L c c' :=
  ⟨hwf, by rw [hlv, k1.lv], by have := k1.sz; omega, by rw [hv]; exact k1.at_, by have := k1.cl; omega, by have := k1.sb; omega⟩
theorem Pk.three {a b d many c c1 c2 c3 : Nat} {L : List Lf} {nd1 nd2 nd3 : Nd} (k1 : Pk nd1 a L c c1) (k2 : Pk nd2 b (rsL L a) c1 c2) (k3 : Pk nd3 d (rsL (rsL L a) b) c2 c3) (hab : a + b + d = many) (hl : many ≤ L.length) (hwf : (Nd.ite nd1 nd2 nd3).wf) : Pk (.ite nd1 nd2 nd3) many L c c3 := by
  subst hab
  refine ⟨hwf, by show nd1.leaves + nd2.leaves + nd3.leaves = _; rw [k1.lv, k2.lv, k3.lv], by have := k1.sz; have := k2.sz; have := k3.sz; show 1 + nd1.size + nd2.size + nd3.size + c3 + 1 ≤ _; omega, ?_, Nat.le_trans k3.cl (Nat.le_trans k2.cl k1.cl), by have := k1.sb; have := k2.sb; have := k3.sb; show nd1.sb + nd2.sb + nd3.sb ≤ 136 * (1 + nd1.size + nd2.size + nd3.size); omega⟩
  show (nd1.atoms ++ (nd2.atoms ++ nd3.atoms)).Perm _
  rw [← List.append_assoc]
  refine lvA_perm hl (lvA_perm (by omega) k1.at_ k2.at_) ?_
  have := k3.at_
  rw [rs_two (by omega)] at this
  exact this
theorem cond_draw {t : TT} {σ : L2.St} {H : Hp} {r : Addr} {n j : Nat} {lim : Int} {E : XK} {b : Bool} {Q : Bool → Hp → Prop} (ht : EvT t σ H b) (l0 : 0 < lim) (l1 : lim.natAbs < 2 ^ 200) (g : Rng H r n) (hn : n < 2 ^ 60) (hj : σ[j]? = some (some (.ref r))) (k : ∀ c H', Bu r H H' → Rng H' r (n + 1) → (c = true → b = true) → Q c H') :
    tAnd t (tTest (tOp rEq (tCall spDraw [] E (tCons (tVar j) (tCons (tC (.int lim)) tNil))) (tC (.int 0)))) σ H Q := by
  refine and_raw (ht H (Ex.refl H) _ fun H1 e1 => ?_)
  cases b with
  | true => exact iteT (test_raw (op_raw (draw_at (l := lim) (n := n) (ea_cons (ev_var hj) (ea_cons ev_c ea_nil)) l0 (log_small l1) hn (g.ex e1) fun H2 v b2 g2 _ _ => ⟨rfl, _, rfl, k _ H2 ((Bu.of e1).trans b2) g2 fun _ => rfl⟩)))
  | false => exact iteF (k false H1 (Bu.of e1) ((g.ex e1).le (by omega)) fun z => z)
end Cf

set_option exponentiation.threshold 20000
namespace Cf
open PySem PySem.Spec PyProof.Rows L2 Evl
/-! ## repr of data with great ints and with dicts -/
section
variable {prog : Program} {w : World} {A : Around} {E : Value → Shared → Prop} {s : Shared}
theorem big_repr {a : Int} {t : Tok} {Q : Value → Shared → Prop} (hu : A.units < cLine) (hn : s.heap.NoDigits) (ha : a.natAbs < 10 ^ 4300) (h : Q (.str (toString a) s.toks) { s with toks := s.toks + 1 }) : wpAny (model prog w) A (pyReprObj (.int a t)) Q E s := by
  refine wpAny_pyReprObj_slot hu (typeIs_int s a t) F.slot_int_repr.toG (wpAny_call_entry F.slot_int_repr (typeIs_int s a t) F.entry_int_repr ?_ (F.args_int_repr_1 _))
  unfold Builtin.«int.__repr__»
  show wpAny _ _ (do let r ← Builtin.overDigitLimit? a; _) _ _ s
  exact wpAny_bind (overDigitLimit_any hn (fun hlt => wpAny_bind (wpAny_mkStr (wpAny_pure ⟨_, rfl, _, _, rfl, h⟩) (int_text_fits10 hlt))) (fun hge => absurd hge (by omega)))
theorem rk_int {h₀ : Heap} {a : Int} {t : Tok} (hn : h₀.NoDigits) (ha : a.natAbs < 10 ^ 4300) (as : List Addr) (d : Nat) : ReprK prog w as h₀ d (.int a t) (toString a) := fun base hb A g E s Q hg hcl hu hk hQ => by
  rw [pyReprUnder_leaf (v := .int a t) (by omega) (fun _ e => nomatch e)]
  unfold pyRepr
  exact wpAny_bind (big_repr (by omega) (hn.keeps hk) ha (wpAny_pure (hQ s.heap _ fun _ _ e => e)))
end
/-! what can be shown: ints of at most 4300 digits -/
mutual
def ShB : PyData → Prop
  | .none => True
  | .bool _ => True
  | .int i => i.natAbs < 10 ^ 4300
  | .str _ => True
  | .list xs => ShBAll xs
  | .tuple xs => ShBAll xs
  | .dict kvs => ShBKv kvs
def ShBAll : List PyData → Prop
  | [] => True
  | x :: xs => ShB x ∧ ShBAll xs
def ShBKv : List (PyData × PyData) → Prop
  | [] => True
  | (k, v) :: r => ShB k ∧ ShB v ∧ ShBKv r
end
mutual
def noD : PyData → Prop
  | .list xs => noDAll xs
  | .tuple xs => noDAll xs
  | .dict _ => False
  | .none => True
  | .bool _ => True
  | .int _ => True
  | .str _ => True
def noDAll : List PyData → Prop
  | [] => True
  | x :: xs => noD x ∧ noDAll xs
end
theorem shB_split : ∀ kvs : List (PyData × PyData), ShBKv kvs → ShBAll (kvs.map (·.1)) ∧ ShBAll (kvs.map (·.2))
  | [], _ => ⟨trivial, trivial⟩
  | (k, v) :: r, h => ⟨⟨h.1, (shB_split r h.2.2).1⟩, ⟨h.2.1, (shB_split r h.2.2).2⟩⟩
section
variable {prog : Program} {w : World} {h₀ : Heap}
mutual
theorem rkB (hn : h₀.NoDigits) : ∀ {v : Value} {d : PyData} {as : List Addr}, Reads h₀ v d as → ShB d → (noD d ∨ sysModules ∉ as) → d.shown.length ≤ sizeLine → ∃ bs, ReadAtMost h₀ d.depth bs ∧ ReprK prog w bs h₀ d.depth v d.shown
  | _, _, _, .none, _, _, _ => ⟨[], (fun _ h => nomatch h), by simp only [PyData.shown]; exact .of_is ReprIs.none _ _ _⟩
  | _, _, _, .bool b, _, _, _ => ⟨[], (fun _ h => nomatch h), by simp only [PyData.shown]; exact .of_is (ReprIs.bool b) _ _ _⟩
  | _, _, _, .int i t, hs, _, _ => ⟨[], (fun _ h => nomatch h), by simp only [PyData.shown]; exact rk_int hn hs _ _⟩
  | _, _, _, .str x t, _, _, hz => ⟨[], (fun _ h => nomatch h), by simp only [PyData.shown]; exact .of_is (ReprIs.str x t (by simpa only [PyData.shown] using hz)) _ _ _⟩
  | _, _, _, .list (a := a) (vs := vs) (xs := xs) h1 h2 h3 h4, hs, hsm, hz => by
    have hz' : (listText (PyData.shownAll xs)).length ≤ sizeLine := by simpa only [PyData.shown] using hz
    obtain ⟨bs, hb, hk⟩ := rkBAll hn h4 hs (hsm.imp id fun z hm => z (List.mem_cons_of_mem _ hm)) (fun t ht => Nat.le_trans (listText_mem_le ht) hz')
    have r : Reads h₀ (.ref a) (.list xs) _ := .list h1 h2 h3 h4
    have hna : a ∉ bs := not_mem_of_deeper r (by simp only [PyData.depth]; omega) hb
    refine ⟨a :: bs, ReadAtMost.cons r (by simp only [PyData.depth]; omega) hb, ?_⟩
    simp only [PyData.depth, PyData.shown]
    obtain ⟨l⟩ := vs
    cases l with
    | nil =>
      have h4' : ReadsAll h₀ [] xs _ := h4
      cases h4'
      simp only [PyData.shownAll, listText_nil]
      exact ReprK.listEmpty h1 h2 h3
    | cons x l => exact ReprK.list h1 h2 h3 hna (by simpa using hk.length_eq) (fun i y e => hk.item i y (by simpa using e))
  | _, _, _, .tuple (a := a) (xs := xs) h1 h2 h3 h4, hs, hsm, hz => by
    have hz' : (tupleText (PyData.shownAll xs)).length ≤ sizeLine := by simpa only [PyData.shown] using hz
    obtain ⟨bs, hb, hk⟩ := rkBAll hn h4 hs hsm (fun t ht => Nat.le_trans (tupleText_mem_le ht) hz')
    have r : Reads h₀ (.ref a) (.tuple xs) _ := .tuple h1 h2 h3 h4
    have hna : a ∉ bs := not_mem_of_deeper r (by simp only [PyData.depth]; omega) hb
    refine ⟨a :: bs, ReadAtMost.cons r (by simp only [PyData.depth]; omega) hb, ?_⟩
    simp only [PyData.depth, PyData.shown]
    exact ReprK.tuple h1 h2 h3 hna hk
  | _, _, _, .dict (a := a) (es := es) (kvs := kvs) (as := as₁) (bs := bs₁) h1 h2 h3 h4 h5, hs, hno, hz => by
    have hz' : (dictText (PyData.shownKv kvs)).length ≤ sizeLine := by simpa only [PyData.shown] using hz
    have hno : sysModules ∉ _ := hno.elim (fun z => z.elim) id
    obtain ⟨hs1, hs2⟩ := shB_split kvs hs
    obtain ⟨b1, hb1, k1⟩ := rkBAll hn h4 hs1 (.inr fun hm => hno (List.mem_cons_of_mem _ (List.mem_append_left _ hm))) (fun t ht => let ⟨p, hp, hl⟩ := PyData.shownKv_key_le kvs t ht; Nat.le_trans hl (Nat.le_trans (dictText_mem_le hp) hz'))
    obtain ⟨b2, hb2, k2⟩ := rkBAll hn h5 hs2 (.inr fun hm => hno (List.mem_cons_of_mem _ (List.mem_append_right _ hm))) (fun t ht => let ⟨p, hp, hl⟩ := PyData.shownKv_val_le kvs t ht; Nat.le_trans hl (Nat.le_trans (dictText_mem_le hp) hz'))
    have r : Reads h₀ (.ref a) (.dict kvs) _ := .dict h1 h2 h3 h4 h5
    have hb : ReadAtMost h₀ (PyData.depthKv kvs) (b1 ++ b2) := (hb1.mono (PyData.depthAll_keys_le kvs)).append (hb2.mono (PyData.depthAll_vals_le kvs))
    have hna : a ∉ b1 ++ b2 := not_mem_of_deeper r (by simp only [PyData.depth]; omega) hb
    have hsys : (a == sysModules) = false := beq_eq_false_iff_ne.mpr fun e => hno (e ▸ List.mem_cons_self ..)
    refine ⟨a :: (b1 ++ b2), ReadAtMost.cons r (by simp only [PyData.depth]; omega) hb, ?_⟩
    simp only [PyData.depth, PyData.shown, PyData.shownKv_eq]
    exact ReprK.dict h1 h2 h3 hsys hna (ReprEntriesK.of_two es.toList _ _
      (k1.more_le (fun b hb => List.mem_append_left _ hb) (PyData.depthAll_keys_le kvs)) (k2.more_le (fun b hb => List.mem_append_right _ hb) (PyData.depthAll_vals_le kvs)))
theorem rkBAll (hn : h₀.NoDigits) : ∀ {vs : List Value} {ds : List PyData} {as : List Addr}, ReadsAll h₀ vs ds as → ShBAll ds → (noDAll ds ∨ sysModules ∉ as) → (∀ t ∈ PyData.shownAll ds, t.length ≤ sizeLine) →
    ∃ bs, ReadAtMost h₀ (PyData.depthAll ds) bs ∧ ReprAllK prog w bs h₀ (PyData.depthAll ds) vs (PyData.shownAll ds)
  | _, _, _, .nil, _, _, _ => ⟨[], (fun _ h => nomatch h), by simp only [PyData.shownAll]; exact .nil⟩
  | _, _, _, .cons (d := d) (ds := ds) r rs, hs, hsm, hz => by
    obtain ⟨b1, hb1, k1⟩ := rkB hn r hs.1 (hsm.imp And.left fun z hm => z (List.mem_append_left _ hm)) (hz _ (by simp only [PyData.shownAll]; exact List.mem_cons_self ..))
    obtain ⟨b2, hb2, k2⟩ := rkBAll hn rs hs.2 (hsm.imp And.right fun z hm => z (List.mem_append_right _ hm)) (fun t ht => hz t (by simp only [PyData.shownAll]; exact List.mem_cons_of_mem _ ht))
    refine ⟨b1 ++ b2, ?_, ?_⟩
    · intro b hm
      simp only [PyData.depthAll]
      rcases List.mem_append.mp hm with hm | hm
      · obtain ⟨d', as', r', hd'⟩ := hb1 b hm
        exact ⟨d', as', r', Nat.le_trans hd' (Nat.le_max_left _ _)⟩
      · obtain ⟨d', as', r', hd'⟩ := hb2 b hm
        exact ⟨d', as', r', Nat.le_trans hd' (Nat.le_max_right _ _)⟩
    · simp only [PyData.depthAll, PyData.shownAll]
      exact .cons ((k1.more fun b hb => List.mem_append_left _ hb).level_le (Nat.le_max_left _ _)) (k2.more_le (fun b hb => List.mem_append_right _ hb) (Nat.le_max_right _ _))
end
end
/-! ## what stands at an address: data without dicts, or a dict of ints -/
def NoDg (K : PySem.W.Frag) : Prop := PySem.W.nsIn K cStatics "sys.int_max_str_digits" = some none
theorem ns_none_of {K : PySem.W.Frag} {h : Heap} {a : Addr} {mg : Str → Option Value} {n : Str} (X : K.In h) (G : h.Ns a mg) (e : PySem.W.nsIn K a n = some none) : mg n = none := by
  obtain ⟨o, es, ep, ho, hd, _, hf⟩ := G
  unfold PySem.W.nsIn at e
  split at e
  · rename_i c d es' n' sl q
    have := X _ _ q
    rw [ho] at this
    cases this
    cases hd
    split at e
    · cases e
    · rename_i he
      rw [← hf]
      unfold nsFind findBy
      rw [← Array.find?_toList, he]
      rfl
  · cases e
section
variable {X : Cx} {pins : List (Addr × Obj)} {σ : L2.St} {H : Hp} {s : Shared}
theorem no_dg (N : NoDg X.K) (I : Inv X pins σ H s) : s.heap.NoDigits := by
  obtain ⟨mc, h1, _⟩ := I.nolimit
  exact ⟨mc, h1, ns_none_of I.kIn h1 N⟩
mutual
theorem dp_readsN (I : Inv X pins σ H s) : ∀ (d : PyData) (v : V) (u : Value), Dp X.K H v d → RelV v u → (∃ as, Reads s.heap u d as) ∧ noD d
  | .none, _, _, h, r => by
    cases h
    cases r
    exact ⟨⟨_, Reads.none⟩, trivial⟩
  | .bool b, _, _, h, r => by
    cases h
    cases r
    exact ⟨⟨_, Reads.bool b⟩, trivial⟩
  | .int i, _, _, h, r => by
    cases h
    obtain ⟨t, rfl⟩ := r
    exact ⟨⟨_, Reads.int i t⟩, trivial⟩
  | .str x, _, _, h, r => by
    cases h
    obtain ⟨t, rfl⟩ := r
    exact ⟨⟨_, Reads.str x t⟩, trivial⟩
  | .list ds, _, _, h, r => by
    cases h with
    | lst hs ha =>
      cases r
      obtain ⟨its, rv, ⟨o, n, ho, hc, _, hd⟩, _⟩ := I.list hs
      obtain ⟨⟨as, hr⟩, hn⟩ := dp_readsNAll I ds _ its ha rv
      exact ⟨⟨_, Reads.list ho hc hd hr⟩, hn⟩
  | .tuple ds, _, _, h, r => by
    cases h with
    | tup hs ha =>
      cases r
      obtain ⟨its, rv, pt, _⟩ := I.tuple hs
      obtain ⟨o, ho, hc, n, hd⟩ := pt
      obtain ⟨⟨as, hr⟩, hn⟩ := dp_readsNAll I ds _ its ha rv
      exact ⟨⟨_, Reads.tuple ho hc hd hr⟩, hn⟩
  | .dict _, _, _, h, _ => nomatch h
theorem dp_readsNAll (I : Inv X pins σ H s) : ∀ (ds : List PyData) (vs : List V) (us : List Value), DpAll X.K H vs ds → Vals vs us → (∃ as, ReadsAll s.heap us ds as) ∧ noDAll ds
  | [], _, _, h, r => by
    cases h
    cases r
    exact ⟨⟨_, ReadsAll.nil⟩, trivial⟩
  | d :: ds, _, _, h, r => by
    cases h with
    | cons h1 h2 =>
      cases r with
      | cons r1 r2 =>
        obtain ⟨⟨as, q1⟩, n1⟩ := dp_readsN I d _ _ h1 r1
        obtain ⟨⟨bs, q2⟩, n2⟩ := dp_readsNAll I ds _ _ h2 r2
        exact ⟨⟨_, ReadsAll.cons q1 q2⟩, n1, n2⟩
end
def keyD : Key → PyData
  | .inl n => .int n
  | .inr x => .str x
def intD : V → PyData
  | .int i => .int i
  | _ => .none
def kvD (p : Key × V) : PyData × PyData := (keyD p.1, intD p.2)
end
section
variable {X : Cx} {pins : List (Addr × Obj)} {σ : L2.St} {H : Hp} {s : Shared}
/-- a dict of ints, read -/
theorem pairs_reads {h : Heap} {prog : Program} {w : World} : ∀ {kvs : List (Key × V)} {vs : List (Key × Value)} {es : List DictEntry}, KV kvs vs → Pairs (mixKind prog w) es vs → (∀ kv ∈ kvs, ∃ i, kv.2 = V.int i) →
    ReadsAll h (es.map (·.key)) ((kvs.map kvD).map (·.1)) [] ∧ ReadsAll h (es.map (·.val)) ((kvs.map kvD).map (·.2)) []
  | [], _, _, r, p, _ => by
    cases r
    cases p
    exact ⟨.nil, .nil⟩
  | kv :: kvs, _, _, r, p, hi => by
    cases r with
    | cons r1 r2 =>
      cases p with
      | cons p1 p2 p3 =>
        obtain ⟨i, hi1⟩ := hi kv (List.mem_cons_self ..)
        obtain ⟨q1, q2⟩ := pairs_reads (h := h) r2 p3 fun x hx => hi x (List.mem_cons_of_mem _ hx)
        obtain ⟨e1, e2⟩ := r1
        rw [hi1] at e2
        obtain ⟨t, ht⟩ := e2
        refine ⟨?_, ?_⟩
        · refine ReadsAll.cons (as := []) (bs := []) ?_ q1
          show Reads h (DictEntry.key _) (keyD kv.1) []
          rcases keyIs_shape p1 with ⟨n, u, k1, k2⟩ | ⟨x, u, k1, k2⟩
          · rw [e1, k1, k2]
            exact .int n u
          · rw [e1, k1, k2]
            exact .str x u
        · refine ReadsAll.cons (as := []) (bs := []) ?_ q2
          show Reads h (DictEntry.val _) (intD kv.2) []
          rw [p2, ht, hi1]
          exact .int i t
/-- an item: data without dicts, or a dict of ints -/
def It1 (K : PySem.W.Frag) (H : Hp) (v : V) (d : PyData) : Prop := Dp K H v d ∨ ∃ a kvs, v = .ref a ∧ H a = some (.dK kvs) ∧ d = .dict (kvs.map kvD) ∧ ∀ kv ∈ kvs, ∃ i, kv.2 = V.int i
theorem It1.ex {K : PySem.W.Frag} {H H' : Hp} {v : V} {d : PyData} (e : Ex H H') (h : It1 K H v d) : It1 K H' v d := by
  rcases h with h | ⟨a, kvs, h1, h2, h3⟩
  · exact .inl (dp_ex e d v h)
  · exact .inr ⟨a, kvs, h1, e _ _ h2, h3⟩
def It1s (K : PySem.W.Frag) (H : Hp) : List V → List PyData → Prop
  | [], [] => True
  | v :: vs, d :: ds => It1 K H v d ∧ It1s K H vs ds
  | _, _ => False
theorem It1s.ex {K : PySem.W.Frag} {H H' : Hp} (e : Ex H H') : ∀ {vs : List V} {ds : List PyData}, It1s K H vs ds → It1s K H' vs ds
  | [], [], _ => trivial
  | v :: vs, d :: ds, h => ⟨h.1.ex e, h.2.ex e⟩
  | [], _ :: _, h => h
  | _ :: _, [], h => h
theorem it1_reads (I : Inv X pins σ H s) {v : V} {u : Value} {d : PyData} (h : It1 X.K H v d) (r : RelV v u) : ∃ as, Reads s.heap u d as ∧ (noD d ∨ sysModules ∉ as) := by
  rcases h with h | ⟨a, kvs, rfl, h2, rfl, hi⟩
  · obtain ⟨⟨as, q⟩, n⟩ := dp_readsN I d v u h r
    exact ⟨as, q, .inl n⟩
  · obtain ⟨hz, hs, vs, rel, o, es, ep, ho, hx, hd, hk, hp, hn⟩ := dk_of I.hok h2
    cases r
    obtain ⟨q1, q2⟩ := pairs_reads (h := s.heap) rel hp hi
    exact ⟨_, Reads.dict ho hx.1 hd q1 q2, .inr fun hm => by
      rcases List.mem_cons.mp hm with z | z
      · exact absurd z.symm (beq_eq_false_iff_ne.mp hs)
      · exact List.not_mem_nil z⟩
theorem it1s_repr {prog : Program} {w : World} (hn : s.heap.NoDigits) (I : Inv X pins σ H s) : ∀ {vs : List V} {us : List Value} {ds : List PyData}, It1s X.K H vs ds → Vals vs us → ShBAll ds → (∀ t ∈ PyData.shownAll ds, t.length ≤ sizeLine) →
    ∃ as bs, ReadsAll s.heap us ds as ∧ ReadAtMost s.heap (PyData.depthAll ds) bs ∧ ReprAllK prog w bs s.heap (PyData.depthAll ds) us (PyData.shownAll ds)
  | [], _, [], _, r, _, _ => by
    cases r
    exact ⟨_, [], .nil, (fun _ h => nomatch h), by simp only [PyData.shownAll]; exact .nil⟩
  | v :: vs, _, d :: ds, h, r, hs, hz => by
    cases r with
    | cons r1 r2 =>
      obtain ⟨as, q1, n1⟩ := it1_reads I h.1 r1
      obtain ⟨as2, b2, q2, hb2, k2⟩ := it1s_repr hn I h.2 r2 hs.2 (fun t ht => hz t (by simp only [PyData.shownAll]; exact List.mem_cons_of_mem _ ht))
      obtain ⟨b1, hb1, k1⟩ := rkB (prog := prog) (w := w) hn q1 hs.1 n1 (hz _ (by simp only [PyData.shownAll]; exact List.mem_cons_self ..))
      refine ⟨_, b1 ++ b2, .cons q1 q2, ?_, ?_⟩
      · intro b hm
        simp only [PyData.depthAll]
        rcases List.mem_append.mp hm with hm | hm
        · obtain ⟨d', as', r', hd'⟩ := hb1 b hm
          exact ⟨d', as', r', Nat.le_trans hd' (Nat.le_max_left _ _)⟩
        · obtain ⟨d', as', r', hd'⟩ := hb2 b hm
          exact ⟨d', as', r', Nat.le_trans hd' (Nat.le_max_right _ _)⟩
      · simp only [PyData.depthAll, PyData.shownAll]
        exact .cons ((k1.more fun b hb => List.mem_append_left _ hb).level_le (Nat.le_max_left _ _)) (k2.more_le (fun b hb => List.mem_append_right _ hb) (Nat.le_max_right _ _))
  | [], _, _ :: _, h, _, _, _ => h.elim
  | _ :: _, _, [], h, _, _, _ => h.elim
def rReprI (K : PySem.W.Frag) : List V → Hp → VK → Prop := fun xs H Q => ∃ (a : Addr) (vs : List V) (ds : List PyData), xs = [.ref a] ∧ SqL K H a vs ∧ vs ≠ [] ∧ It1s K H vs ds ∧ ShBAll ds ∧
  (PyData.shown (.list ds)).length ≤ sizeLine ∧ PyData.depthAll ds ≤ 60 ∧ Q (.str (PyData.shown (.list ds))) H
theorem call_reprI (N : NoDg X.K) (hG : X.A.guards = some []) (hu : X.A.units + 64 < cLine) : CallR X (.builtin "repr") (rReprI X.K) := by
  intro pins s σ H xs us Q I r h
  obtain ⟨a, vs, ds, rfl, hl, hne, hi, hs, hz, hp, q⟩ := h
  obtain ⟨u, rfl, rx⟩ := vals1 r
  obtain rfl : u = Value.ref a := rx
  obtain ⟨its, rv, ⟨o, n, ho, hc, _, hd⟩, _⟩ := I.list hl
  have hz' : (listText (PyData.shownAll ds)).length ≤ sizeLine := by simpa only [PyData.shown] using hz
  obtain ⟨as, bs, hr, hb, hk⟩ := it1s_repr (prog := X.prog) (w := X.w) (no_dg N I) I hi rv hs (fun t ht => Nat.le_trans (listText_mem_le ht) hz')
  have hna : a ∉ bs := not_mem_of_deeper (.list ho hc hd hr) (by simp only [PyData.depth]; omega) hb
  refine call_repr_slot (by omega) ⟨o, ho, hc⟩ F.slot_list_repr.toG ?_
  cases its with
  | nil =>
    cases rv
    exact absurd rfl hne
  | cons x l =>
    refine call_list_reprK ho hc hd hna (by simpa using hk.length_eq) (fun i y e => hk.item i y (by simpa using e)) hG (fun b _ => Clear.nil b) (by show X.A.units + 1 + (PyData.depthAll ds + 1) < cLine; omega) (fun b o e => e) (fun h' u tk kp => ?_) hz'
    refine ⟨_, _, rfl, .str (PyData.shown (.list ds)), H, I.kept kp, ⟨u, ?_⟩, q⟩
    simp only [PyData.shown]
end
end Cf

set_option exponentiation.threshold 20000
namespace Cf
open PySem PySem.Spec PyProof.Rows L2 Evl
/-! ## whole expressions, values of variables -/
theorem lv_all (L : List Lf) : lvL L L.length = L := by
  unfold lvL
  rw [Nat.sub_self, List.drop_zero]
def spPW : Sp := fun vs H Q _ => ∃ r la n L truth, vs = [.ref r, .ref la, .bl truth] ∧ 1 ≤ L.length ∧ L.length ≤ 10 ∧ n < 2 ^ 40 ∧ Rng H r n ∧ H la = some (.lst (lfV L)) ∧ (∀ x ∈ L, TreeAt H x.1 x.2 ∧ LeafOk x.2) ∧
  ∀ p nd H', Bu r H H' → Rng H' r (n + 300) → TreeAt H' p nd → nd.isE = !(truth && decide (1 < L.length)) → nd.wf → nd.size ≤ 2 * L.length + 7 → nd.sb ≤ 136 * nd.size → nd.vars.Perm (lvV L) → nd.atoms.Perm (lvA L) → Q (.ref p) H'
/-- rows that stand at addresses -/
abbrev RowA := Addr × Row
def rowV (L : List RowA) : List V := L.map fun x => V.ref x.1
def RowsIn (H : Hp) (L : List RowA) : Prop := ∀ x ∈ L, H x.1 = some (.tup x.2.vs)
theorem rows_in_ex {H H' : Hp} {L : List RowA} (e : Ex H H') (h : RowsIn H L) : RowsIn H' L := fun x hx => e _ _ (h x hx)
theorem rows_in_tk {H H' : Hp} {L : List RowA} (e : TupK H H') (h : RowsIn H L) : RowsIn H' L := fun x hx => e _ _ (h x hx)
theorem VarsAt.list {H : Hp} {l : Addr} {rows : List Row} (h : VarsAt H l rows) : ∃ L : List RowA, H l = some (.lst (rowV L)) ∧ RowsIn H L ∧ L.map (·.2) = rows := by
  obtain ⟨ps, h1, h2, h3⟩ := h
  have hz : (ps.zip rows).map Prod.fst = ps := List.map_fst_zip (by omega)
  have hz2 : (ps.zip rows).map Prod.snd = rows := List.map_snd_zip (by omega)
  refine ⟨ps.zip rows, ?_, ?_, hz2⟩
  · rw [h1]
    congr 2
    unfold rowV
    rw [show (fun x : RowA => V.ref x.1) = V.ref ∘ Prod.fst from rfl, ← List.map_map, hz]
  · intro x hx
    obtain ⟨j, hj, hjx⟩ := List.mem_iff_getElem.mp hx
    rw [List.getElem_zip] at hjx
    subst hjx
    have hj1 : j < ps.length := by rw [List.length_zip] at hj; omega
    have hj2 : j < rows.length := by rw [List.length_zip] at hj; omega
    obtain ⟨p, q1, q2⟩ := h3 j rows[j] (List.getElem?_eq_getElem hj2)
    rw [List.getElem?_eq_getElem hj1] at q1
    cases q1
    exact q2
theorem rows_dat_lay : ∀ {rows : List Row}, (∀ w ∈ rows, PyData.strOk w.name = true) → PyData.canLayAll0 (rows.map Row.dat) = true
  | [], _ => by simp [PyData.canLayAll0]
  | w :: rows, h => by
    have ih := rows_dat_lay (rows := rows) fun x hx => h x (List.mem_cons_of_mem _ hx)
    have h1 := h w (List.mem_cons_self ..)
    have h2 : PyData.strOk w.kind.s = true := by cases w.kind <;> decide +kernel
    simp only [List.map_cons, PyData.canLayAll0, Row.dat, PyData.canLay0, h1, h2, Bool.and_true, Bool.true_and]
    exact ih
theorem rows_dat_depth : ∀ rows : List Row, PyData.depthAll (rows.map Row.dat) ≤ 3
  | [] => by simp [PyData.depthAll]
  | w :: rows => by
    have ih := rows_dat_depth rows
    simp only [List.map_cons, PyData.depthAll, Row.dat, PyData.depth]
    omega
theorem rows_dat_shaped {rows : List Row} (h : ∀ w ∈ rows, PyData.strOk w.name = true) : SeqAt.shaped (.list (rows.map Row.dat)) = true := by
  have h1 := rows_dat_depth rows
  show (PyData.canLay0 (.list (rows.map Row.dat)) && decide (PyData.depth (.list (rows.map Row.dat)) ≤ 64)) = true
  rw [Bool.and_eq_true]
  refine ⟨by simp only [PyData.canLay0]; exact rows_dat_lay h, decide_eq_true ?_⟩
  simp only [PyData.depth]
  omega
theorem rows_dat_nil (rows : List Row) : PyData.eqv (.list (rows.map Row.dat)) (.list []) = decide (rows = []) := by cases rows <;> simp [PyData.eqv, PyData.eqvAll]
theorem rowV_dp {K : PySem.W.Frag} {H : Hp} {l : Addr} {L : List RowA} (h : H l = some (.lst (rowV L))) (hr : RowsIn H L) : Dp K H (.ref l) (.list ((L.map (·.2)).map Row.dat)) := by
  refine .lst (sq_of h) (dps_at (by simp [rowV]) fun j d hj => ?_)
  rw [List.getElem?_map] at hj
  obtain ⟨w, hw, rfl⟩ := Option.map_eq_some_iff.mp hj
  rw [List.getElem?_map] at hw
  obtain ⟨x, hx, rfl⟩ := Option.map_eq_some_iff.mp hw
  refine ⟨.ref x.1, by unfold rowV; rw [List.getElem?_map, hx]; rfl, .tup (st_of (hr x (List.mem_of_getElem? hx))) (.cons (.str _) (.cons (.str _) (.cons (.int _) (.cons (.int _) .nil))))⟩
/-- values that are given: in the order in which they were put in -/
abbrev Gv := Row × Int
def gvL (L : List Gv) : List (Key × V) := L.map fun x => (.inr x.1.name, .int x.2)
def gvOf (L : List Gv) (x : Str) : Int := ((L.find? fun y => decide (y.1.name = x)).map (·.2)).getD 0
theorem gv_val (x : Str) : ∀ L : List Gv, valV (gvL L) (.inr x) = ((L.find? fun y => decide (y.1.name = x)).map fun y => V.int y.2)
  | [] => rfl
  | y :: L => by
    have ih := gv_val x L
    unfold gvL at ih ⊢
    simp only [List.map_cons, valV, List.find?_cons] at ih ⊢
    by_cases e : y.1.name = x
    · simp [e]
    · have e2 : ¬ ((Sum.inr y.1.name : Key) = Sum.inr x) := fun z => e (Sum.inr.inj z)
      simp only [e, e2, decide_false]
      exact ih
theorem gv_none {L : List Gv} {x : Str} (h : x ∉ L.map (·.1.name)) : valV (gvL L) (.inr x) = none := by
  rw [gv_val, List.find?_eq_none.mpr]
  · rfl
  · intro y hy z
    exact h (List.mem_map.mpr ⟨y, hy, of_decide_eq_true z⟩)
theorem gv_put {L : List Gv} {w : Row} {i : Int} (h : w.name ∉ L.map (·.1.name)) : putK (gvL L) (.inr w.name) (.int i) = gvL (L ++ [(w, i)]) := by
  unfold putK
  rw [valV_any, gv_none h]
  unfold gvL
  rw [List.map_append]
  rfl
theorem gv_at : ∀ {L : List Gv} {y : Gv}, (L.map (·.1.name)).Nodup → y ∈ L → L.find? (fun z => decide (z.1.name = y.1.name)) = some y
  | x :: L, y, hn, hy => by
    rw [List.map_cons, List.nodup_cons] at hn
    rw [List.find?_cons]
    rcases List.mem_cons.mp hy with rfl | hy
    · simp
    · have : ¬ x.1.name = y.1.name := fun z => hn.1 (by rw [z]; exact List.mem_map.mpr ⟨y, hy, rfl⟩)
      simp only [this, decide_false]
      exact gv_at hn.2 hy
/-- the values are those of the rows -/
structure GvOk (L : List Gv) (rows : List Row) : Prop where
  pm : (L.map (·.1)).Perm rows
  nd : (rows.map Row.name).Nodup
  le : ∀ y ∈ L, y.1.low ≤ y.2 ∧ y.2 ≤ y.1.high
theorem GvOk.nd2 {L : List Gv} {rows : List Row} (h : GvOk L rows) : (L.map (·.1.name)).Nodup := by
  have e : L.map (·.1.name) = (L.map (·.1)).map Row.name := by rw [List.map_map]; rfl
  rw [e]
  exact ((h.pm.map Row.name).nodup_iff).mpr h.nd
theorem GvOk.vals {L : List Gv} {rows : List Row} (h : GvOk L rows) : ValsOk (gvL L) rows (gvOf L) := by
  intro w hw
  obtain ⟨y, hy, rfl⟩ := List.mem_map.mp (h.pm.mem_iff.mpr hw)
  have e := gv_at h.nd2 hy
  have e2 : gvOf L y.1.name = y.2 := by unfold gvOf; rw [e]; rfl
  refine ⟨?_, ?_⟩
  · rw [gv_val, e, e2]
    rfl
  · rw [e2]
    exact h.le y hy
theorem GvOk.rev {L : List Gv} {rows : List Row} (h : GvOk L rows) : GvOk L.reverse rows := ⟨by rw [List.map_reverse]; exact (List.reverse_perm _).trans h.pm, h.nd, fun y hy => h.le y (List.mem_reverse.mp hy)⟩
theorem gvOf_rev {L : List Gv} {rows : List Row} (h : GvOk L rows) : gvOf L.reverse = gvOf L := by
  funext x
  by_cases hx : ∃ y ∈ L, y.1.name = x
  · obtain ⟨y, hy, rfl⟩ := hx
    have a := gv_at h.nd2 hy
    have b := gv_at h.rev.nd2 (List.mem_reverse.mpr hy)
    unfold gvOf
    rw [a, b]
  · have a : L.find? (fun y => decide (y.1.name = x)) = none := List.find?_eq_none.mpr fun y hy z => hx ⟨y, hy, of_decide_eq_true z⟩
    have b : L.reverse.find? (fun y => decide (y.1.name = x)) = none := List.find?_eq_none.mpr fun y hy z => hx ⟨y, List.mem_reverse.mp hy, of_decide_eq_true z⟩
    unfold gvOf
    rw [a, b]
theorem gvOf_small {L : List Gv} {rows : List Row} (h : GvOk L rows) (hf : ∀ w ∈ rows, w.Fit) (x : Str) : (gvOf L x).natAbs < 2 ^ 136 := by
  unfold gvOf
  cases e : L.find? (fun y => decide (y.1.name = x)) with
  | none => show (0 : Int).natAbs < _; decide
  | some y =>
    have hy := List.mem_of_find?_eq_some e
    have h1 := h.le y hy
    have h2 := hf y.1 (h.pm.mem_iff.mp (List.mem_map.mpr ⟨y, hy, rfl⟩))
    obtain ⟨_, h3, h4⟩ := h2
    show y.2.natAbs < _
    omega
theorem gv_len {L : List Gv} {rows : List Row} (h : GvOk L rows) : L.length = rows.length := by
  have := h.pm.length_eq
  rw [List.length_map] at this
  exact this
def spGv : Sp := fun vs H Q _ => ∃ r l n rows, vs = [.ref r, .ref l] ∧ VarsAt H l rows ∧ (rows.map Row.name).Nodup ∧ (∀ w ∈ rows, PyData.strOk w.name = true) ∧ (∀ w ∈ rows, w.Fit) ∧ rows.length ≤ 8 ∧ n < 2 ^ 40 ∧ Rng H r n ∧
  ∀ d L H', H d = none → Bu r H H' → Rng H' r (n + 24) → H' d = some (.dK (gvL L)) → GvOk L rows → Q (.ref d) H'
def spTu : Sp := fun vs H Q _ => ∃ d L rows, vs = [.ref d] ∧ H d = some (.dK (gvL L)) ∧ GvOk L rows ∧ rows.length ≤ 1000 ∧ ∀ d2 H', H d2 = none → Ex H H' → H' d2 = some (.dK (gvL L.reverse)) → Q (.ref d2) H'
/-- d[k] = v, the key a text that is worked out -/
theorem s_dputV {σ : L2.St} {H : Hp} {ta tk tv : TE} {D : Ends} {bg : Addr} {kvs : List (Key × V)} {k : Str} {v : V} (hv : Ev tv σ H v) (ho : Ev ta σ H (.ref bg)) (hk : Ev tk σ H (.str k)) (h : H bg = some (.dK kvs)) (hl : kvs.length < 100000) (n : ∀ H1, Ex H H1 → D.nx σ (upd H1 bg (.dK (putK kvs (.inr k) v)))) : sDPut ta tk tv D σ H :=
  hv H (Ex.refl H) _ fun H1 e1 => ho H1 e1 _ fun H2 e2 => hk H2 (e1.trans e2) _ fun H3 e3 => ⟨bg, _, rfl, DPut.k (k := .inr k) (e3 _ _ (e2 _ _ (e1 _ _ h))) (sz_lt hl), n H3 (e1.trans (e2.trans e3))⟩
theorem prs_raw {tk tv : TE} {r : List (TE × TE)} {σ : L2.St} {H : Hp} {Q : List (V × V) → Hp → Prop} (h : tk σ H fun x H1 => tv σ H1 fun y H2 => tPairs r σ H2 fun ps H3 => Q ((x, y) :: ps) H3) : tPairs ((tk, tv) :: r) σ H Q := h
theorem prs_nil {σ : L2.St} {H : Hp} {Q : List (V × V) → Hp → Prop} (h : Q [] H) : tPairs [] σ H Q := h
theorem q_raw' {te : TE} {tz : TS} {D : Ends} {g : TG} {σ : L2.St} {H : Hp} (h : te σ H fun x H1 => g x σ H1 fun σ2 H2 => tz D σ2 H2) : tSeq (tAsg te g) tz D σ H := h
theorem dput_raw {ta tk tv : TE} {D : Ends} {σ : L2.St} {H : Hp} (h : tv σ H fun v H1 => ta σ H1 fun x H2 => tk σ H2 fun y H3 => ∃ a H4, x = .ref a ∧ DPut H3 a y v H4 ∧ D.nx σ H4) : sDPut ta tk tv D σ H := h
theorem sdrop_raw {te : TE} {D : Ends} {σ : L2.St} {H : Hp} (h : te σ H fun _ H1 => D.nx σ H1) : tDrop te D σ H := h
/-! ## the scene of k14 -/
def chr8 : List Nat := [104, 103, 102, 101, 100, 99, 98, 97]
def spec8 : List Str := ["shr", "var", "lit", "mul", "if", "less", "first", "result"]
def nms (t : Nat) : List Str := [(⟨#[chr8.getD t 0]⟩ : Str) ++ ("" : Str), (⟨#[chr8.getD t 0]⟩ : Str) ++ ("yx" : Str), (⟨#[chr8.getD t 0]⟩ : Str) ++ ("sevenab" : Str), spec8.getD t ""]
def nmGood (x : Str) : Bool := nameOk x && PyData.strOk x && smStr x
theorem nms_ok : ∀ t, t < 8 → ∀ x ∈ nms t, nmGood x = true := by decide +kernel
theorem nms_all : ((List.range 8).all fun s => (List.range 8).all fun t => s == t || (nms s).all fun x => !(nms t).any fun y => decide (y = x)) = true := by decide +kernel
theorem nms_dis (s : Nat) (hs : s < 8) (t : Nat) (ht : t < 8) (hst : s ≠ t) (x : Str) (hx : x ∈ nms s) : x ∉ nms t := fun hy => by
  have h1 := List.all_eq_true.mp (List.all_eq_true.mp nms_all s (List.mem_range.mpr hs)) t (List.mem_range.mpr ht)
  rw [Bool.or_eq_true] at h1
  rcases h1 with h1 | h1
  · exact hst (by simpa using h1)
  · have h2 := List.all_eq_true.mp h1 x hx
    have h3 : ((nms t).any fun y => decide (y = x)) = true := List.any_eq_true.mpr ⟨x, hy, decide_eq_true rfl⟩
    rw [h3] at h2
    exact nomatch h2
theorem nmGood_all {x : Str} (h : nmGood x = true) : nameOk x = true ∧ PyData.strOk x = true ∧ smStr x = true := by
  unfold nmGood at h
  rw [Bool.and_eq_true, Bool.and_eq_true] at h
  exact ⟨h.1.1, h.1.2, h.2⟩
theorem VarsAt.of {H : Hp} {l : Addr} {L : List RowA} (h : H l = some (.lst (rowV L))) (hr : RowsIn H L) : VarsAt H l (L.map (·.2)) := by
  refine ⟨L.map (·.1), by rw [h, List.map_map]; rfl, by rw [List.length_map, List.length_map], fun j w hj => ?_⟩
  rw [List.getElem?_map] at hj
  obtain ⟨x, hx, rfl⟩ := Option.map_eq_some_iff.mp hj
  exact ⟨x.1, by rw [List.getElem?_map, hx]; rfl, hr x (List.mem_of_getElem? hx)⟩
structure Scene (H : Hp) (lf lv : Addr) (rows : List Row) (L : List Lf) : Prop where
  v : VarsAt H lf rows
  l : H lv = some (.lst (lfV L))
  t : ∀ x ∈ L, TreeAt H x.1 x.2 ∧ LeafOk x.2
  nm : ∀ w ∈ rows, nmGood w.name = true
  nd : (rows.map Row.name).Nodup
  ft : ∀ w ∈ rows, w.Fit
  r8 : rows.length ≤ 8
  l1 : 1 ≤ L.length
  l8 : L.length ≤ 8
  vs : (lvV L).Perm (rows.map Row.name)
def spFar : Sp := fun vs H Q _ => ∃ r n, vs = [.ref r] ∧ n < 2 ^ 40 ∧ Rng H r n ∧ ∀ p lf lv rows L H', Bu r H H' → Rng H' r (n + 100) → H' p = some (.lst [.ref lf, .ref lv]) → Scene H' lf lv rows L → Q (.ref p) H'
theorem lcL_go {K : PySem.W.Frag} {σ : L2.St} {H : Hp} {te tl : TE} {tt : TT} {g : TG} {vs : List Nat} {a : Addr} {xs : List V} {Q : VK} (h : Ev tl σ H (.ref a)) (hx : SqL K H a xs) (Pv : Addr → Nat → Hp → Prop) (h0 : ∀ D H1, Ex H H1 → H1 D = none → Pv D 0 (upd H1 D (.lst [])))
    (hk : ∀ D i H', i ≤ xs.length → Pv D i H' → SqL K H' a xs)
    (hs : ∀ D i x H', xs[i]? = some x → Pv D i H' → g x (wipe σ vs) H' fun σ2 H2 => wipe σ2 vs = wipe σ vs ∧ tt σ2 H2 fun b H3 =>
      if b = true then te σ2 H3 fun y H4 => ∃ acc, H4 D = some (.lst acc) ∧ acc.length < sizeLine ∧ Pv D (i + 1) (upd H4 D (.lst (acc ++ [y]))) else Pv D (i + 1) H3)
    (hd : ∀ D H', Pv D xs.length H' → Q (.ref D) H') : tLc (iList K tl) g tt te vs σ H Q :=
  h H (Ex.refl H) _ fun H1 e1 => ⟨a, rfl, ⟨xs, ex_l e1 hx⟩, fun D nD => lc_list (Pv D) (h0 D H1 e1 nD) (hk D) (hs D) (hd D)⟩
theorem nms_nodup {rows : List Row} (h : ∀ (j : Nat) (w : Row), rows[j]? = some w → w.name ∈ nms j) (h8 : rows.length ≤ 8) : (rows.map Row.name).Nodup := by
  rw [List.nodup_iff_pairwise_ne, List.pairwise_iff_getElem]
  intro i j hi hj hij z
  rw [List.length_map] at hi hj
  rw [List.getElem_map, List.getElem_map] at z
  have a := h i rows[i] (List.getElem?_eq_getElem hi)
  have b := h j rows[j] (List.getElem?_eq_getElem hj)
  rw [z] at a
  exact nms_dis j (by omega) i (by omega) (by omega) _ b a
theorem nms_good {rows : List Row} (h : ∀ (j : Nat) (w : Row), rows[j]? = some w → w.name ∈ nms j) (h8 : rows.length ≤ 8) : ∀ w ∈ rows, nmGood w.name = true := by
  intro w hw
  obtain ⟨j, hj, rfl⟩ := List.mem_iff_getElem.mp hw
  exact nms_ok j (by omega) _ (h j _ (List.getElem?_eq_getElem hj))
theorem chr8_at {t : Nat} (h : t < 8) : atI ("hgfedcba" : Str).cps.toList (t : Int) = some (chr8.getD t 0) := by
  match t, h with
  | 0, _ => decide +kernel
  | 1, _ => decide +kernel
  | 2, _ => decide +kernel
  | 3, _ => decide +kernel
  | 4, _ => decide +kernel
  | 5, _ => decide +kernel
  | 6, _ => decide +kernel
  | 7, _ => decide +kernel
end Cf

set_option exponentiation.threshold 20000
namespace Cf
open PySem PySem.Spec PyProof.Rows L2 Evl
/-! ## bits of a value -/
theorem num_sb {g : Str → Int} (hg : ∀ x, (g x).natAbs < 2 ^ 136) : ∀ {nd : Nd}, nd.wf → (nd.num g).natAbs < 2 ^ nd.sb
  | .var x, w => hg x
  | .lit n s, w => by
    have h1 : 0 ≤ n := w.1
    have h2 : n < 2 ^ 136 := w.2.1
    show n.natAbs < 2 ^ 136
    omega
  | .cast k e, w => num_sb (nd := e) hg w.2
  | .neg e, w => by
    have ih := num_sb hg w.2
    simp only [Nd.num, Int.natAbs_neg, Nd.sb]
    exact ih
  | .bin o e f, w => by
    have ih := num_sb hg w.2.2.1
    have jh := num_sb hg w.2.2.2
    have h4 : 2 ^ e.sb ≤ 2 ^ (e.sb + f.sb) := pw_le (by omega)
    have h5 : 2 ^ f.sb ≤ 2 ^ (e.sb + f.sb) := pw_le (by omega)
    have h6 : 2 ^ (e.sb + f.sb) * 2 = 2 ^ (Nd.bin o e f).sb := (Nat.pow_succ ..).symm
    cases o with
    | add => simp only [Nd.num, Bo.op]; omega
    | sub => simp only [Nd.num, Bo.op]; omega
    | mul =>
      simp only [Nd.num, Bo.op, Int.natAbs_mul]
      have h7 : (e.num g).natAbs * (f.num g).natAbs < 2 ^ e.sb * 2 ^ f.sb := Nat.mul_lt_mul'' ih jh
      rw [← Nat.pow_add] at h7
      omega
  | .sh true e k, w => by
    obtain ⟨_, we, w1, w2⟩ := w
    have ih := num_sb hg we
    have h7 : (e.num g).natAbs * 2 ^ k.toNat < 2 ^ e.sb * 2 ^ k.toNat := Nat.mul_lt_mul_of_pos_right ih (Nat.pow_pos (by decide))
    rw [← Nat.pow_add] at h7
    have h9 : ((2 : Int) ^ k.toNat).natAbs = 2 ^ k.toNat := by rw [Int.natAbs_pow]; rfl
    simp only [Nd.num, Int.natAbs_mul, h9, Nd.sb]
    exact h7
  | .sh false e k, w => by
    have ih := num_sb hg w.2.1
    have h2 : 2 ^ e.sb ≤ 2 ^ (Nd.sh false e k).sb := pw_le (by simp only [Nd.sb]; omega)
    have h3 := Int.natAbs_ediv_le_natAbs (e.num g) (2 ^ k.toNat)
    simp only [Nd.num]
    omega
  | .ite c e f, w => by
    have ih := num_sb hg w.2.2.2.2.1
    have jh := num_sb hg w.2.2.2.2.2
    have h4 : 2 ^ e.sb ≤ 2 ^ (Nd.ite c e f).sb := pw_le (by simp only [Nd.sb]; omega)
    have h5 : 2 ^ f.sb ≤ 2 ^ (Nd.ite c e f).sb := pw_le (by simp only [Nd.sb]; omega)
    simp only [Nd.num]
    split <;> omega
  | .cmp b e f, w => by simp only [Nd.num]; exact Nat.pow_pos (by decide)
  | .nt c, w => by simp only [Nd.num]; exact Nat.pow_pos (by decide)
  | .lg b c d, w => by simp only [Nd.num]; exact Nat.pow_pos (by decide)
/-! ## how long the texts are -/
mutual
theorem sm_bulk : ∀ d : PyData, Sm d → d.bulk + 1 ≤ 31 * szD d
  | .none, _ => by simp only [PyData.bulk, szD]; omega
  | .bool _, _ => by simp only [PyData.bulk, szD]; omega
  | .int _, _ => by simp only [PyData.bulk, szD]; omega
  | .str x, h => by
    have h1 : x.cps.size ≤ 30 ∧ _ := h
    simp only [PyData.bulk, szD]
    omega
  | .list xs, h => by
    have := sm_bulks xs h
    simp only [PyData.bulk, szD]
    omega
  | .tuple xs, h => by
    have := sm_bulks xs h
    simp only [PyData.bulk, szD]
    omega
  | .dict _, h => h.elim
theorem sm_bulks : ∀ ds : List PyData, SmAll ds → PyData.bulkAll ds ≤ 31 * szAll ds
  | [], _ => by simp only [PyData.bulkAll, szAll]; omega
  | x :: xs, h => by
    have a := sm_bulk x h.1
    have b := sm_bulks xs h.2
    simp only [PyData.bulkAll, szAll]
    omega
end
theorem big_of {i : Int} {n : Nat} (h : i.natAbs < 2 ^ n) (hn : n ≤ 3328) : i.natAbs < 10 ^ 1002 := by
  have h1 : (2 : Nat) ^ n ≤ 2 ^ 3328 := Nat.pow_le_pow_right (by decide) hn
  have h2 : (2 : Nat) ^ 3328 < 10 ^ 1002 := by decide +kernel
  omega
theorem big_43 {i : Int} (h : i.natAbs < 10 ^ 1002) : i.natAbs < 10 ^ 4300 := by
  have h2 : (10 : Nat) ^ 1002 < 10 ^ 4300 := by decide +kernel
  omega
mutual
theorem sm_shB : ∀ d : PyData, Sm d → ShB d
  | .none, _ => trivial
  | .bool _, _ => trivial
  | .int i, h => by
    have h1 : i.natAbs < 2 ^ 140 := h
    exact big_43 (big_of h1 (by decide))
  | .str _, _ => trivial
  | .list xs, h => sm_shBs xs h
  | .tuple xs, h => sm_shBs xs h
  | .dict _, h => h.elim
theorem sm_shBs : ∀ ds : List PyData, SmAll ds → ShBAll ds
  | [], _ => trivial
  | x :: xs, h => ⟨sm_shB x h.1, sm_shBs xs h.2⟩
end
theorem rows_szB : ∀ rows : List Row, szAll (rows.map Row.dat) ≤ 5 * rows.length
  | [] => by simp [szAll]
  | w :: rows => by
    have := rows_szB rows
    simp only [List.map_cons, szAll, Row.dat, szD, List.length_cons]
    omega
theorem lit_sm {n : Int} (h : n.natAbs < 2 ^ 140) : Sm (.int n) := h
theorem shS_sm (b : Bool) : smStr (shS b) = true := by cases b <;> decide +kernel
theorem cmpS_sm (b : Bool) : smStr (cmpS b) = true := by cases b <;> decide +kernel
theorem lgS_sm (b : Bool) : smStr (lgS b) = true := by cases b <;> decide +kernel
theorem boS_sm (o : Bo) : smStr o.s = true := by cases o <;> decide +kernel
theorem nd_smB : ∀ {nd : Nd}, nd.wf → (∀ x ∈ nd.vars, smStr x = true) → Sm nd.dat ∧ szD nd.dat ≤ 4 * nd.size
  | .var x, _, h => ⟨⟨sm_str (by decide +kernel), sm_str (h x (List.mem_cons_self ..)), trivial⟩, by simp [Nd.dat, szD, szAll, Nd.size]⟩
  | .lit n s, w, _ => ⟨⟨sm_str (by decide +kernel), lit_sm (by have h1 : 0 ≤ n := w.1; have h2 : n < 2 ^ 136 := w.2.1; omega), sm_str (suf_sm w.2.2), trivial⟩, by simp [Nd.dat, szD, szAll, Nd.size]⟩
  | .cast k e, w, h => by
    obtain ⟨a, b⟩ := nd_smB (nd := e) w.2 h
    exact ⟨⟨sm_str (by decide +kernel), sm_str (kd_sm k), a, trivial⟩, by simp only [Nd.dat, szD, szAll, Nd.size]; omega⟩
  | .neg e, w, h => by
    obtain ⟨a, b⟩ := nd_smB (nd := e) w.2 h
    exact ⟨⟨sm_str (by decide +kernel), a, trivial⟩, by simp only [Nd.dat, szD, szAll, Nd.size]; omega⟩
  | .bin o e f, w, h => by
    obtain ⟨a, b⟩ := nd_smB (nd := e) w.2.2.1 fun x hx => h x (List.mem_append_left _ hx)
    obtain ⟨c, d⟩ := nd_smB (nd := f) w.2.2.2 fun x hx => h x (List.mem_append_right _ hx)
    exact ⟨⟨sm_str (boS_sm o), a, c, trivial⟩, by simp only [Nd.dat, szD, szAll, Nd.size]; omega⟩
  | .sh o e k, w, h => by
    obtain ⟨a, b⟩ := nd_smB (nd := e) w.2.1 h
    have k0 : 0 ≤ k := w.2.2.1
    have k1 : k < 1000 := w.2.2.2
    exact ⟨⟨sm_str (shS_sm o), a, lit_sm (by omega), trivial⟩, by simp only [Nd.dat, szD, szAll, Nd.size]; omega⟩
  | .ite c e f, w, h => by
    obtain ⟨a, b⟩ := nd_smB (nd := c) w.2.2.2.1 fun x hx => h x (List.mem_append_left _ hx)
    obtain ⟨a1, b1⟩ := nd_smB (nd := e) w.2.2.2.2.1 fun x hx => h x (List.mem_append_right _ (List.mem_append_left _ hx))
    obtain ⟨a2, b2⟩ := nd_smB (nd := f) w.2.2.2.2.2 fun x hx => h x (List.mem_append_right _ (List.mem_append_right _ hx))
    exact ⟨⟨sm_str (by decide +kernel), a, a1, a2, trivial⟩, by simp only [Nd.dat, szD, szAll, Nd.size]; omega⟩
  | .cmp o e f, w, h => by
    obtain ⟨a, b⟩ := nd_smB (nd := e) w.2.2.1 fun x hx => h x (List.mem_append_left _ hx)
    obtain ⟨c, d⟩ := nd_smB (nd := f) w.2.2.2 fun x hx => h x (List.mem_append_right _ hx)
    exact ⟨⟨sm_str (cmpS_sm o), a, c, trivial⟩, by simp only [Nd.dat, szD, szAll, Nd.size]; omega⟩
  | .nt c, w, h => by
    obtain ⟨a, b⟩ := nd_smB (nd := c) w.2 h
    exact ⟨⟨sm_str (by decide +kernel), a, trivial⟩, by simp only [Nd.dat, szD, szAll, Nd.size]; omega⟩
  | .lg o e f, w, h => by
    obtain ⟨a, b⟩ := nd_smB (nd := e) w.2.2.1 fun x hx => h x (List.mem_append_left _ hx)
    obtain ⟨c, d⟩ := nd_smB (nd := f) w.2.2.2 fun x hx => h x (List.mem_append_right _ hx)
    exact ⟨⟨sm_str (lgS_sm o), a, c, trivial⟩, by simp only [Nd.dat, szD, szAll, Nd.size]; omega⟩
/-! ## what k14 and its like keep and tell -/
def keptL (rows : List Row) (nd : Nd) (L : List Gv) : List PyData := [.list (rows.map Row.dat), nd.dat, .dict ((gvL L).map kvD)]
theorem gv_short : ∀ {L : List Gv}, (∀ y ∈ L, smStr y.1.name = true) → (∀ y ∈ L, y.2.natAbs < 2 ^ 136) → PyData.leavesShortKv 141 ((gvL L).map kvD) = true ∧ PyData.bulkKv ((gvL L).map kvD) ≤ 32 * L.length ∧ ShBKv ((gvL L).map kvD) ∧ PyData.depthKv ((gvL L).map kvD) = 0
  | [], _, _ => ⟨by simp [gvL, PyData.leavesShortKv], by simp [gvL, PyData.bulkKv], trivial, by simp [gvL, PyData.depthKv]⟩
  | y :: L, h, k => by
    obtain ⟨a, b, c, d⟩ := gv_short (L := L) (fun z hz => h z (List.mem_cons_of_mem _ hz)) fun z hz => k z (List.mem_cons_of_mem _ hz)
    have h1 := sm_str (h y (List.mem_cons_self ..))
    have h2 : Sm (.int y.2) := lit_sm (by have := k y (List.mem_cons_self ..); omega)
    have s1 := (sm_all _ h1).2.2.1
    have s2 := (sm_all _ h2).2.2.1
    have b1 := sm_bulk _ h1
    have b2 := sm_bulk _ h2
    unfold gvL at a b c d ⊢
    refine ⟨?_, ?_, ⟨trivial, sm_shB _ h2, c⟩, ?_⟩
    · simp only [List.map_cons, PyData.leavesShortKv, kvD, keyD, intD, s1, s2, Bool.and_true, Bool.true_and]
      exact a
    · simp only [List.map_cons, PyData.bulkKv, kvD, keyD, intD, List.length_cons, szD, PyData.bulk] at b1 b2 ⊢
      omega
    · simp only [List.map_cons, PyData.depthKv, kvD, keyD, intD, PyData.depth]
      omega
theorem kept_ok {rows : List Row} {nd : Nd} {L : List Gv} (hn : ∀ w ∈ rows, smStr w.name = true) (hf : ∀ w ∈ rows, w.Fit) (hr : rows.length ≤ 8) (hw : nd.wf) (hv : ∀ x ∈ nd.vars, smStr x = true) (hs : nd.size ≤ 30) (h1 : ∀ y ∈ L, smStr y.1.name = true) (h2 : ∀ y ∈ L, y.2.natAbs < 2 ^ 136) (hl : L.length ≤ 8) :
    ShBAll (keptL rows nd L) ∧ (PyData.shown (.list (keptL rows nd L))).length ≤ sizeLine ∧ PyData.depthAll (keptL rows nd L) ≤ 60 := by
  obtain ⟨a, b, c, d⟩ := gv_short h1 h2
  obtain ⟨n1, n2⟩ := nd_smB hw hv
  have r1 : Sm (.list (rows.map Row.dat)) := rows_sm hn hf
  have r2 := rows_szB rows
  have d1 := rows_dat_depth rows
  have d2 := nd_depth nd
  refine ⟨⟨sm_shB _ r1, sm_shB _ n1, c, trivial⟩, ?_, ?_⟩
  · have z := PyData.shown_le_bulk 141 (by decide) (.list (keptL rows nd L)) (by
      simp only [keptL, PyData.leavesShort, PyData.leavesShortAll, a, (sm_all _ n1).2.2.1, Bool.and_true, Bool.true_and]
      have := (sm_all _ r1).2.2.1
      simp only [PyData.leavesShort] at this
      exact this)
    have b1 := sm_bulk _ r1
    have b2 := sm_bulk _ n1
    have z2 : (PyData.list (keptL rows nd L)).bulk ≤ 10000 := by
      simp only [keptL, PyData.bulk, PyData.bulkAll, szD] at b1 b2 ⊢
      omega
    have := sizeLine_eq
    omega
  · simp only [keptL, PyData.depthAll, PyData.depth]
    omega
def exD : V → PyData
  | .int i => .int i
  | .bl b => .bool b
  | _ => .none
theorem ex_ok {g : Str → Int} {nd : Nd} (hg : ∀ x, (g x).natAbs < 2 ^ 136) (hw : nd.wf) (hs : nd.sb ≤ 3328) : ∀ K H, Dp K H (exV g nd) (exD (exV g nd)) := by
  intro K H
  unfold exV
  split
  · exact .int _
  · exact .bl _
theorem told_ok {g : Str → Int} {nd : Nd} (hg : ∀ x, (g x).natAbs < 2 ^ 136) (hw : nd.wf) (hs : nd.sb ≤ 3328) : ShBAll [exD (exV g nd), exD (exV g nd), exD (exV g nd)] ∧ (PyData.shown (.list [exD (exV g nd), exD (exV g nd), exD (exV g nd)])).length ≤ sizeLine ∧ PyData.depthAll [exD (exV g nd), exD (exV g nd), exD (exV g nd)] ≤ 60 := by
  have z0 := sizeLine_eq
  unfold exV
  split
  · have hb := big_of (num_sb hg hw) hs
    have hc := big_43 hb
    have hl := int_text_length_le10 (k := 1002) (by decide) hb
    have hl2 : (PyData.shown (.int (nd.num g))).length ≤ 1003 := by
      simp only [PyData.shown]
      show (Str.ofString (toString (nd.num g))).length ≤ 1003
      rw [PySem.ofString_length]
      exact hl
    refine ⟨⟨hc, hc, hc, trivial⟩, ?_, by simp [exD, PyData.depthAll, PyData.depth]⟩
    have z := PyData.shown_le_bulk 1003 (by decide) (.list [.int (nd.num g), .int (nd.num g), .int (nd.num g)]) (by simp only [PyData.leavesShort, PyData.leavesShortAll, decide_eq_true hl2, Bool.and_true])
    have z2 : (PyData.list [.int (nd.num g), .int (nd.num g), .int (nd.num g)]).bulk = 3 := by simp [PyData.bulk, PyData.bulkAll]
    rw [z2] at z
    show (PyData.shown (.list [.int (nd.num g), .int (nd.num g), .int (nd.num g)])).length ≤ _
    omega
  · refine ⟨⟨trivial, trivial, trivial, trivial⟩, ?_, by simp [exD, PyData.depthAll, PyData.depth]⟩
    have z := PyData.shown_le_bulk 1003 (by decide) (.list [.bool (nd.tru g), .bool (nd.tru g), .bool (nd.tru g)]) (by simp [PyData.leavesShort, PyData.leavesShortAll])
    have z2 : (PyData.list [.bool (nd.tru g), .bool (nd.tru g), .bool (nd.tru g)]).bulk = 3 := by simp [PyData.bulk, PyData.bulkAll]
    rw [z2] at z
    show (PyData.shown (.list [.bool (nd.tru g), .bool (nd.tru g), .bool (nd.tru g)])).length ≤ _
    omega
section
variable {K : PySem.W.Frag} {σ : L2.St} {H : Hp} {xs : List V} {ds : List PyData}
theorem ev_reprI {ta : TE} (ha : EvL ta σ H xs) (hd : It1s K H xs ds) (hne : xs ≠ []) (h : ShBAll ds ∧ (PyData.shown (.list ds)).length ≤ sizeLine ∧ PyData.depthAll ds ≤ 60) : Ev (tCB (rReprI K) (tCons ta tNil)) σ H (.str (PyData.shown (.list ds))) := fun H1 e Q q =>
  ha H1 e _ fun p H2 _ e2 h2 => ⟨p, xs, ds, rfl, sq_of h2, hne, hd.ex (e.trans e2), h.1, h.2.1, h.2.2, q H2 e2⟩
theorem ev_reprIV {ta : TE} {p : Addr} (ha : Ev ta σ H (.ref p)) (hp : H p = some (.lst xs)) (hd : It1s K H xs ds) (hne : xs ≠ []) (h : ShBAll ds ∧ (PyData.shown (.list ds)).length ≤ sizeLine ∧ PyData.depthAll ds ≤ 60) : Ev (tCB (rReprI K) (tCons ta tNil)) σ H (.str (PyData.shown (.list ds))) := fun H1 e Q q =>
  ha H1 e _ fun H2 e2 => ⟨p, xs, ds, rfl, sq_of (e2 _ _ (e _ _ hp)), hne, hd.ex (e.trans e2), h.1, h.2.1, h.2.2, q H2 e2⟩
end
theorem kept_it {K : PySem.W.Frag} {H : Hp} {l p d : Addr} {rows : List Row} {nd : Nd} {L : List Gv} (hV : Dp K H (.ref l) (.list (rows.map Row.dat))) (hT : TreeAt H p nd) (hd : H d = some (.dK (gvL L))) : It1s K H [.ref l, .ref p, .ref d] (keptL rows nd L) :=
  ⟨.inl hV, .inl hT.dp, .inr ⟨d, gvL L, rfl, hd, rfl, fun kv hk => by
    unfold gvL at hk
    obtain ⟨y, _, rfl⟩ := List.mem_map.mp hk
    exact ⟨_, rfl⟩⟩, trivial⟩
theorem qif_raw {t : TT} {u v tz : TS} {D : Ends} {σ : L2.St} {H : Hp} (h : t σ H fun b H1 => if b = true then u { D with nx := tz D } σ H1 else v { D with nx := tz D } σ H1) : tSeq (tIfS t u v) tz D σ H := h
theorem far_math {K : PySem.W.Frag} {H : Hp} {lf p d : Addr} {i B : Int} {nd : Nd} (hB : B.natAbs < 2 ^ 136) (h0 : -B ≤ i) (h1 : i ≤ B) (hV : VarsAt H lf [⟨"x", .ch, -B, B⟩]) (hT : TreeAt H p nd) (hw : nd.wf) (hs : nd.size ≤ 30) (hv : nd.vars = [("x" : Str)]) (hd : H d = some (.dK [(.inr "x", .int i)])) : preMath K [.ref lf, .ref p, .ref d] H (exV (fun _ => i) nd) := by
  have hi : i.natAbs < 2 ^ 140 := by omega
  have hn1 : ([("x" : Str)]).Nodup := List.nodup_cons.mpr ⟨List.not_mem_nil, List.nodup_nil⟩
  refine ⟨lf, p, d, _, nd, _, fun _ => i, rfl, hV, by show 1 ≤ 100; decide, ?_, hn1, ?_, hT, hw, hs, ?_, ?_, hd, ?_, fun _ => hi, rfl⟩
  · intro w hw
    rw [List.mem_singleton.mp hw]
    show nameOk "x" = true
    decide +kernel
  · intro w hw
    rw [List.mem_singleton.mp hw]
    show -B ≤ B
    omega
  · intro y hy
    rw [hv] at hy
    exact hy
  · rw [hv]
    exact hn1
  · intro w hw
    rw [List.mem_singleton.mp hw]
    exact ⟨rfl, h0, h1⟩
theorem no_le {K : PySem.W.Frag} {vs : List V} {H : Hp} {Q : VK} {E : XK} (h : PV (preLE K 0) vs H Q E) : False := by
  obtain ⟨_, ⟨_, _, _, _, nd, _, _, _, h0, _⟩, _⟩ := h
  cases nd <;> simp only [Nd.size] at h0 <;> omega
end Cf

set_option exponentiation.threshold 20000
namespace Cf
open PySem PySem.Spec PyProof.Rows L2 Evl
/-! ## the range of an expression, by corners -/
theorem num_tru {g h : Str → Int} : ∀ (nd : Nd), (∀ x ∈ nd.vars, g x = h x) → nd.num g = nd.num h ∧ nd.tru g = nd.tru h
  | .var x, e => ⟨e x (List.mem_cons_self ..), rfl⟩
  | .lit n s, _ => ⟨rfl, rfl⟩
  | .cast k a, e => ⟨(num_tru a e).1, rfl⟩
  | .neg a, e => ⟨by simp only [Nd.num, (num_tru a e).1], rfl⟩
  | .bin o a b, e => ⟨by simp only [Nd.num, (num_tru a fun x hx => e x (List.mem_append_left _ hx)).1, (num_tru b fun x hx => e x (List.mem_append_right _ hx)).1], rfl⟩
  | .sh true a k, e => ⟨by simp only [Nd.num, (num_tru a e).1], rfl⟩
  | .sh false a k, e => ⟨by simp only [Nd.num, (num_tru a e).1], rfl⟩
  | .ite c a b, e => ⟨by simp only [Nd.num, (num_tru c fun x hx => e x (List.mem_append_left _ hx)).2, (num_tru a fun x hx => e x (List.mem_append_right _ (List.mem_append_left _ hx))).1, (num_tru b fun x hx => e x (List.mem_append_right _ (List.mem_append_right _ hx))).1], rfl⟩
  | .cmp true a b, e => ⟨rfl, by simp only [Nd.tru, (num_tru a fun x hx => e x (List.mem_append_left _ hx)).1, (num_tru b fun x hx => e x (List.mem_append_right _ hx)).1]⟩
  | .cmp false a b, e => ⟨rfl, by simp only [Nd.tru, (num_tru a fun x hx => e x (List.mem_append_left _ hx)).1, (num_tru b fun x hx => e x (List.mem_append_right _ hx)).1]⟩
  | .nt c, e => ⟨rfl, by simp only [Nd.tru, (num_tru c e).2]⟩
  | .lg true a b, e => ⟨rfl, by simp only [Nd.tru, (num_tru a fun x hx => e x (List.mem_append_left _ hx)).2, (num_tru b fun x hx => e x (List.mem_append_right _ hx)).2]⟩
  | .lg false a b, e => ⟨rfl, by simp only [Nd.tru, (num_tru a fun x hx => e x (List.mem_append_left _ hx)).2, (num_tru b fun x hx => e x (List.mem_append_right _ hx)).2]⟩
theorem exV_agree {g h : Str → Int} {nd : Nd} (e : ∀ x ∈ nd.vars, g x = h x) : exV g nd = exV h nd := by
  unfold exV
  rw [(num_tru nd e).1, (num_tru nd e).2]
/-- its value as a number, a truth as 1 or 0 -/
def Nd.nm (g : Str → Int) (nd : Nd) : Int := if nd.isE = true then nd.num g else if nd.tru g = true then 1 else 0
theorem nm_agree {g h : Str → Int} {nd : Nd} (e : ∀ x ∈ nd.vars, g x = h x) : nd.nm g = nd.nm h := by
  unfold Nd.nm
  rw [(num_tru nd e).1, (num_tru nd e).2]
def kV (e : Bool) (n : Int) : V := if e = true then .int n else .bl (decide (n = 1))
theorem exV_kV (g : Str → Int) (nd : Nd) : exV g nd = kV nd.isE (nd.nm g) := by
  unfold exV kV Nd.nm
  split
  · rfl
  · cases nd.tru g <;> rfl
theorem nm_E {g : Str → Int} {nd : Nd} (h : nd.isE = true) : nd.nm g = nd.num g := if_pos h
theorem nm_C {g : Str → Int} {nd : Nd} (h : nd.isE = false) : nd.nm g = if nd.tru g = true then 1 else 0 := if_neg (by rw [h]; decide)
theorem nm_01 {g : Str → Int} {nd : Nd} (h : nd.isE = false) : nd.nm g = 0 ∨ nd.nm g = 1 := by
  rw [nm_C h]
  cases nd.tru g
  · exact .inl rfl
  · exact .inr rfl
theorem nm_tru {g : Str → Int} {nd : Nd} (h : nd.isE = false) : nd.tru g = decide (nd.nm g = 1) := by
  rw [nm_C h]
  cases nd.tru g <;> rfl
/-- values within the ranges -/
def Bx (rows : List Row) (g : Str → Int) : Prop := (∀ w ∈ rows, w.low ≤ g w.name ∧ g w.name ≤ w.high) ∧ ∀ x, (g x).natAbs < 2 ^ 140
/-- lo and hi are its least and its greatest number there -/
def IsSp (rows : List Row) (nd : Nd) (lo hi : Int) : Prop := (∃ g, Bx rows g ∧ nd.nm g = lo) ∧ (∃ g, Bx rows g ∧ nd.nm g = hi) ∧ ∀ g, Bx rows g → lo ≤ nd.nm g ∧ nd.nm g ≤ hi
theorem IsSp.uniq {rows : List Row} {nd : Nd} {a b c d : Int} (h : IsSp rows nd a b) (k : IsSp rows nd c d) : a = c ∧ b = d := by
  obtain ⟨⟨g1, b1, e1⟩, ⟨g2, b2, e2⟩, h3⟩ := h
  obtain ⟨⟨f1, c1, d1⟩, ⟨f2, c2, d2⟩, k3⟩ := k
  have p1 := h3 f1 c1
  have p2 := h3 f2 c2
  have q1 := k3 g1 b1
  have q2 := k3 g2 b2
  omega
/-- g on the variables of e, h on the others -/
def mx (e : Nd) (g h : Str → Int) : Str → Int := fun x => if x ∈ e.vars then g x else h x
theorem mx_bx {rows : List Row} {e : Nd} {g h : Str → Int} (bg : Bx rows g) (bh : Bx rows h) : Bx rows (mx e g h) := by
  refine ⟨fun w hw => ?_, fun x => ?_⟩
  · unfold mx
    split
    · exact bg.1 w hw
    · exact bh.1 w hw
  · unfold mx
    split
    · exact bg.2 x
    · exact bh.2 x
theorem mx_l {e : Nd} {g h : Str → Int} : ∀ x ∈ e.vars, mx e g h x = g x := fun x hx => if_pos hx
theorem mx_r {e f : Nd} {g h : Str → Int} (d : ∀ x ∈ e.vars, x ∉ f.vars) : ∀ x ∈ f.vars, mx e g h x = h x := fun x hx => if_neg fun z => d x z hx
/-- between the values at the ends -/
def Ql (f : Int → Int) : Prop := ∀ a x b, a ≤ x → x ≤ b → (f a ≤ f x ∨ f b ≤ f x) ∧ (f x ≤ f a ∨ f x ≤ f b)
theorem Ql.mono {f : Int → Int} (h : ∀ x y, x ≤ y → f x ≤ f y) : Ql f := fun a x b p q => ⟨.inl (h _ _ p), .inr (h _ _ q)⟩
theorem Ql.anti {f : Int → Int} (h : ∀ x y, x ≤ y → f y ≤ f x) : Ql f := fun a x b p q => ⟨.inr (h _ _ q), .inl (h _ _ p)⟩
theorem Ql.const (c : Int) : Ql fun _ => c := fun _ _ _ _ _ => ⟨.inl (Int.le_refl _), .inl (Int.le_refl _)⟩
def Ql2 (f : Int → Int → Int) : Prop := (∀ y, Ql fun x => f x y) ∧ ∀ x, Ql (f x)
theorem Ql2.corner {f : Int → Int → Int} (q : Ql2 f) {a1 x b1 a2 y b2 : Int} (h1 : a1 ≤ x) (h2 : x ≤ b1) (h3 : a2 ≤ y) (h4 : y ≤ b2) :
    (f a1 a2 ≤ f x y ∨ f a1 b2 ≤ f x y ∨ f b1 a2 ≤ f x y ∨ f b1 b2 ≤ f x y) ∧ (f x y ≤ f a1 a2 ∨ f x y ≤ f a1 b2 ∨ f x y ≤ f b1 a2 ∨ f x y ≤ f b1 b2) := by
  have u := q.1 y a1 x b1 h1 h2
  have v := q.2 a1 a2 y b2 h3 h4
  have w := q.2 b1 a2 y b2 h3 h4
  dsimp only at u
  omega
/-- what a node of one part makes of its number -/
def Nd.f1 : Nd → Option (Nd × (Int → Int))
  | .cast _ e => some (e, fun a => a)
  | .neg e => some (e, fun a => -a)
  | .sh true e k => some (e, fun a => a * 2 ^ k.toNat)
  | .sh false e k => some (e, fun a => a / 2 ^ k.toNat)
  | .nt c => some (c, fun a => 1 - a)
  | _ => none
def Nd.f2 : Nd → Option (Nd × Nd × (Int → Int → Int))
  | .bin o e f => some (e, f, o.op)
  | .cmp true e f => some (e, f, fun a b => if a < b then 1 else 0)
  | .cmp false e f => some (e, f, fun a b => if a ≤ b then 1 else 0)
  | .lg true c d => some (c, d, fun a b => if a ≤ b then a else b)
  | .lg false c d => some (c, d, fun a b => if a ≤ b then b else a)
  | _ => none
theorem pow2_pos (k : Nat) : (0 : Int) < 2 ^ k := by
  have : (0 : Nat) < 2 ^ k := Nat.pow_pos (by decide)
  have h : ((2 ^ k : Nat) : Int) = (2 : Int) ^ k := by rw [Int.natCast_pow]; rfl
  omega
theorem f1_ok : ∀ {nd e : Nd} {F : Int → Int}, nd.f1 = some (e, F) → nd.wf → Ql F ∧ nd.parts = [e] ∧ nd.vars = e.vars ∧ ∀ g, nd.nm g = F (e.nm g)
  | .cast _ e, _, _, h, w => by
    cases h
    exact ⟨.mono fun _ _ h => h, rfl, rfl, fun g => by rw [nm_E rfl, nm_E w.1]; rfl⟩
  | .neg e, _, _, h, w => by
    cases h
    exact ⟨.anti fun _ _ h => by omega, rfl, rfl, fun g => by rw [nm_E rfl, nm_E w.1]; rfl⟩
  | .sh true e k, _, _, h, w => by
    cases h
    exact ⟨.mono fun _ _ h => Int.mul_le_mul_of_nonneg_right h (Int.le_of_lt (pow2_pos _)), rfl, rfl, fun g => by rw [nm_E rfl, nm_E w.1]; rfl⟩
  | .sh false e k, _, _, h, w => by
    cases h
    exact ⟨.mono fun _ _ h => Int.ediv_le_ediv (pow2_pos _) h, rfl, rfl, fun g => by rw [nm_E rfl, nm_E w.1]; rfl⟩
  | .nt c, _, _, h, w => by
    cases h
    refine ⟨.anti fun _ _ h => by omega, rfl, rfl, fun g => ?_⟩
    rw [nm_C rfl, nm_C w.1]
    show (if (!c.tru g) = true then (1 : Int) else 0) = 1 - _
    cases c.tru g <;> rfl
theorem mul_ql2 : Ql2 fun a b => a * b := by
  have h1 : ∀ y : Int, Ql fun x => x * y := fun y => by
    rcases Int.le_total 0 y with h | h
    · exact .mono fun a b e => Int.mul_le_mul_of_nonneg_right e h
    · exact .anti fun a b e => Int.mul_le_mul_of_nonpos_right e h
  exact ⟨h1, fun x a y b p q => by have := h1 x a y b p q; simp only [Int.mul_comm x]; exact this⟩
theorem f2_ok : ∀ {nd e f : Nd} {F : Int → Int → Int}, nd.f2 = some (e, f, F) → nd.wf → Ql2 F ∧ nd.parts = [e, f] ∧ nd.vars = e.vars ++ f.vars ∧ ∀ g, nd.nm g = F (e.nm g) (f.nm g)
  | .bin .add e f, _, _, _, h, w => by
    cases h
    exact ⟨⟨fun y => .mono fun a b e => by show a + y ≤ b + y; omega, fun x => .mono fun a b e => by show x + a ≤ x + b; omega⟩, rfl, rfl, fun g => by rw [nm_E rfl, nm_E w.1, nm_E w.2.1]; rfl⟩
  | .bin .sub e f, _, _, _, h, w => by
    cases h
    exact ⟨⟨fun y => .mono fun a b e => by show a - y ≤ b - y; omega, fun x => .anti fun a b e => by show x - b ≤ x - a; omega⟩, rfl, rfl, fun g => by rw [nm_E rfl, nm_E w.1, nm_E w.2.1]; rfl⟩
  | .bin .mul e f, _, _, _, h, w => by
    cases h
    exact ⟨mul_ql2, rfl, rfl, fun g => by rw [nm_E rfl, nm_E w.1, nm_E w.2.1]; rfl⟩
  | .cmp true e f, _, _, _, h, w => by
    cases h
    refine ⟨⟨fun y => .anti fun a b e => ?_, fun x => .mono fun a b e => ?_⟩, rfl, rfl, fun g => ?_⟩
    · show (if b < y then (1 : Int) else 0) ≤ if a < y then 1 else 0
      split <;> split <;> omega
    · show (if x < a then (1 : Int) else 0) ≤ if x < b then 1 else 0
      split <;> split <;> omega
    · rw [nm_C rfl, nm_E w.1, nm_E w.2.1]
      simp only [Nd.tru, decide_eq_true_eq]
  | .cmp false e f, _, _, _, h, w => by
    cases h
    refine ⟨⟨fun y => .anti fun a b e => ?_, fun x => .mono fun a b e => ?_⟩, rfl, rfl, fun g => ?_⟩
    · show (if b ≤ y then (1 : Int) else 0) ≤ if a ≤ y then 1 else 0
      split <;> split <;> omega
    · show (if x ≤ a then (1 : Int) else 0) ≤ if x ≤ b then 1 else 0
      split <;> split <;> omega
    · rw [nm_C rfl, nm_E w.1, nm_E w.2.1]
      simp only [Nd.tru, decide_eq_true_eq]
  | .lg true c d, _, _, _, h, w => by
    cases h
    refine ⟨⟨fun y => .mono fun a b e => ?_, fun x => .mono fun a b e => ?_⟩, rfl, rfl, fun g => ?_⟩
    · show (if a ≤ y then a else y) ≤ if b ≤ y then b else y
      split <;> split <;> omega
    · show (if x ≤ a then x else a) ≤ if x ≤ b then x else b
      split <;> split <;> omega
    · rw [nm_C rfl, nm_C w.1, nm_C w.2.1]
      show (if (c.tru g && d.tru g) = true then (1 : Int) else 0) = _
      cases c.tru g <;> cases d.tru g <;> rfl
  | .lg false c d, _, _, _, h, w => by
    cases h
    refine ⟨⟨fun y => .mono fun a b e => ?_, fun x => .mono fun a b e => ?_⟩, rfl, rfl, fun g => ?_⟩
    · show (if a ≤ y then y else a) ≤ if b ≤ y then y else b
      split <;> split <;> omega
    · show (if x ≤ a then a else x) ≤ if x ≤ b then b else x
      split <;> split <;> omega
    · rw [nm_C rfl, nm_C w.1, nm_C w.2.1]
      show (if (c.tru g || d.tru g) = true then (1 : Int) else 0) = _
      cases c.tru g <;> cases d.tru g <;> rfl
/-- the corners, as the program lists them -/
def addC (found : List (List V)) (s : V × V) : List (List V) := found.flatMap fun c => [c ++ [s.1], c ++ [s.2]]
def crn (ss : List (V × V)) : List (List V) := ss.foldl addC [[]]
/-- the spans of its parts -/
inductive SpsOf (rows : List Row) : List Nd → List (V × V) → Prop
  | nil : SpsOf rows [] []
  | cons {nd : Nd} {lo hi : Int} {nds : List Nd} {ss : List (V × V)} (h : IsSp rows nd lo hi) (t : SpsOf rows nds ss) : SpsOf rows (nd :: nds) ((kV nd.isE lo, kV nd.isE hi) :: ss)
theorem SpsOf.inv {rows : List Row} {nd : Nd} {nds : List Nd} {ss : List (V × V)} (h : SpsOf rows (nd :: nds) ss) : ∃ lo hi ss', ss = (kV nd.isE lo, kV nd.isE hi) :: ss' ∧ IsSp rows nd lo hi ∧ SpsOf rows nds ss' := by
  cases h with
  | cons h t => exact ⟨_, _, _, rfl, h, t⟩
theorem SpsOf.inv0 {rows : List Row} {ss : List (V × V)} (h : SpsOf rows [] ss) : ss = [] := by
  cases h
  rfl
/-- values that reach all corners -/
def Cor (rows : List Row) (nd : Nd) (ss : List (V × V)) (Gs : List (Str → Int)) : Prop := crn ss = Gs.map (fun g => nd.parts.map (exV g)) ∧ Gs ≠ [] ∧ (∀ g ∈ Gs, Bx rows g) ∧ ∀ g, Bx rows g → (∃ h ∈ Gs, nd.nm h ≤ nd.nm g) ∧ ∃ h ∈ Gs, nd.nm g ≤ nd.nm h
theorem disj_of {a b : List Str} (h : (a ++ b).Nodup) : a.Nodup ∧ b.Nodup ∧ ∀ x ∈ a, x ∉ b := by
  rw [List.nodup_append] at h
  exact ⟨h.1, h.2.1, fun x hx hb => h.2.2 x hx x hb rfl⟩
theorem corner {rows : List Row} (hb : ∃ g, Bx rows g) : ∀ {nd : Nd} {ss : List (V × V)}, nd.wf → nd.vars.Nodup → nd.word ≠ "var" → SpsOf rows nd.parts ss → ∃ Gs, Cor rows nd ss Gs := by
  have one : ∀ {nd e : Nd} {F : Int → Int} {ss : List (V × V)}, nd.f1 = some (e, F) → nd.wf → SpsOf rows nd.parts ss → ∃ Gs, Cor rows nd ss Gs := fun {nd e F ss} h w k => by
    obtain ⟨q, hp, hv, hn⟩ := f1_ok h w
    rw [hp] at k
    cases k with
    | cons k1 k2 =>
      cases k2
      obtain ⟨⟨g1, b1, rfl⟩, ⟨g2, b2, rfl⟩, h3⟩ := k1
      refine ⟨[g1, g2], ?_, (fun z => nomatch z), ?_, fun g bg => ?_⟩
      · rw [hp]
        show [[kV e.isE (e.nm g1)], [kV e.isE (e.nm g2)]] = [[exV g1 e], [exV g2 e]]
        rw [exV_kV, exV_kV]
      · intro g hg
        rcases List.mem_cons.mp hg with rfl | hg
        · exact b1
        · rw [List.mem_singleton.mp hg]
          exact b2
      · obtain ⟨p1, p2⟩ := h3 g bg
        obtain ⟨u, v⟩ := q _ _ _ p1 p2
        rw [hn g]
        constructor
        · rcases u with u | u
          · exact ⟨g1, List.mem_cons_self .., by rw [hn]; exact u⟩
          · exact ⟨g2, List.mem_cons_of_mem _ (List.mem_cons_self ..), by rw [hn]; exact u⟩
        · rcases v with u | u
          · exact ⟨g1, List.mem_cons_self .., by rw [hn]; exact u⟩
          · exact ⟨g2, List.mem_cons_of_mem _ (List.mem_cons_self ..), by rw [hn]; exact u⟩
  have two : ∀ {nd e f : Nd} {F : Int → Int → Int} {ss : List (V × V)}, nd.f2 = some (e, f, F) → nd.wf → nd.vars.Nodup → SpsOf rows nd.parts ss → ∃ Gs, Cor rows nd ss Gs := fun {nd e f F ss} h w hnd k => by
    obtain ⟨q, hp, hv, hn⟩ := f2_ok h w
    rw [hp] at k
    rw [hv] at hnd
    obtain ⟨_, _, dj⟩ := disj_of hnd
    cases k with
    | cons k1 k2 =>
      cases k2 with
      | cons k2 k3 =>
        cases k3
        obtain ⟨⟨g1, b1, rfl⟩, ⟨g2, b2, rfl⟩, h3⟩ := k1
        obtain ⟨⟨f1, c1, rfl⟩, ⟨f2, c2, rfl⟩, k3⟩ := k2
        have el : ∀ u v, exV (mx e u v) e = kV e.isE (e.nm u) := fun u v => by rw [exV_agree mx_l, exV_kV]
        have er : ∀ u v, exV (mx e u v) f = kV f.isE (f.nm v) := fun u v => by rw [exV_agree (mx_r dj), exV_kV]
        have nn : ∀ u v, nd.nm (mx e u v) = F (e.nm u) (f.nm v) := fun u v => by rw [hn, nm_agree mx_l, nm_agree (mx_r dj)]
        refine ⟨[mx e g1 f1, mx e g1 f2, mx e g2 f1, mx e g2 f2], ?_, (fun z => nomatch z), ?_, fun g bg => ?_⟩
        · rw [hp]
          show _ = [[exV (mx e g1 f1) e, exV (mx e g1 f1) f], [exV (mx e g1 f2) e, exV (mx e g1 f2) f], [exV (mx e g2 f1) e, exV (mx e g2 f1) f], [exV (mx e g2 f2) e, exV (mx e g2 f2) f]]
          simp only [el, er]
          rfl
        · intro g hg
          simp only [List.mem_cons, List.not_mem_nil, or_false] at hg
          rcases hg with rfl | rfl | rfl | rfl
          · exact mx_bx b1 c1
          · exact mx_bx b1 c2
          · exact mx_bx b2 c1
          · exact mx_bx b2 c2
        · obtain ⟨p1, p2⟩ := h3 g bg
          obtain ⟨p3, p4⟩ := k3 g bg
          obtain ⟨u, v⟩ := q.corner p1 p2 p3 p4
          rw [hn g]
          constructor
          · rcases u with u | u | u | u
            · exact ⟨_, .head _, by rw [nn]; exact u⟩
            · exact ⟨_, .tail _ (.head _), by rw [nn]; exact u⟩
            · exact ⟨_, .tail _ (.tail _ (.head _)), by rw [nn]; exact u⟩
            · exact ⟨_, .tail _ (.tail _ (.tail _ (.head _))), by rw [nn]; exact u⟩
          · rcases v with u | u | u | u
            · exact ⟨_, .head _, by rw [nn]; exact u⟩
            · exact ⟨_, .tail _ (.head _), by rw [nn]; exact u⟩
            · exact ⟨_, .tail _ (.tail _ (.head _)), by rw [nn]; exact u⟩
            · exact ⟨_, .tail _ (.tail _ (.tail _ (.head _))), by rw [nn]; exact u⟩
  intro nd ss w hnd hw k
  match nd, w, hnd, hw, k with
  | .var x, _, _, hw, _ => exact absurd rfl hw
  | .lit n s, w, _, _, k =>
    cases k
    obtain ⟨g, hg⟩ := hb
    exact ⟨[g], rfl, (fun z => nomatch z), (fun h hh => by rw [List.mem_singleton.mp hh]; exact hg), fun h _ => ⟨⟨g, .head _, Int.le_refl _⟩, ⟨g, .head _, Int.le_refl _⟩⟩⟩
  | .cast _ _, w, _, _, k => exact one rfl w k
  | .neg _, w, _, _, k => exact one rfl w k
  | .sh true _ _, w, _, _, k => exact one rfl w k
  | .sh false _ _, w, _, _, k => exact one rfl w k
  | .nt _, w, _, _, k => exact one rfl w k
  | .bin _ _ _, w, hnd, _, k => exact two rfl w hnd k
  | .cmp true _ _, w, hnd, _, k => exact two rfl w hnd k
  | .cmp false _ _, w, hnd, _, k => exact two rfl w hnd k
  | .lg true _ _, w, hnd, _, k => exact two rfl w hnd k
  | .lg false _ _, w, hnd, _, k => exact two rfl w hnd k
  | .ite c e f, w, hnd, _, k =>
    have hnd : (c.vars ++ (e.vars ++ f.vars)).Nodup := hnd
    clear one two
    obtain ⟨_, n2, d1⟩ := disj_of hnd
    obtain ⟨_, _, d2⟩ := disj_of n2
    have k : SpsOf rows [c, e, f] ss := k
    obtain ⟨l1, i1, s1, rfl, k1, k⟩ := k.inv
    obtain ⟨l2, i2, s2, rfl, k2, k⟩ := k.inv
    obtain ⟨l3, i3, s3, rfl, k3, k⟩ := k.inv
    have := k.inv0
    subst this
    obtain ⟨⟨g1, b1, q1⟩, ⟨g2, b2, q2⟩, h3⟩ := k1
    obtain ⟨⟨u1, c1, q3⟩, ⟨u2, c2, q4⟩, v3⟩ := k2
    obtain ⟨⟨w1, e1, q5⟩, ⟨w2, e2, q6⟩, x3⟩ := k3
    subst q1 q2 q3 q4 q5 q6
    have wc : c.isE = false := w.1
    let M := fun g u v => mx c g (mx e u v)
    have ec : ∀ g u v, ∀ x ∈ c.vars, M g u v x = g x := fun g u v => mx_l
    have ee : ∀ g u v, ∀ x ∈ e.vars, M g u v x = u x := fun g u v x hx => by
      show mx c g (mx e u v) x = u x
      rw [mx_r (f := e) (fun y hy hz => d1 y hy (List.mem_append_left _ hz)) x hx, mx_l x hx]
    have ef : ∀ g u v, ∀ x ∈ f.vars, M g u v x = v x := fun g u v x hx => by
      show mx c g (mx e u v) x = v x
      rw [mx_r (f := f) (fun y hy hz => d1 y hy (List.mem_append_right _ hz)) x hx, mx_r d2 x hx]
    have xc : ∀ g u v, exV (M g u v) c = kV c.isE (c.nm g) := fun g u v => by rw [exV_agree (ec g u v), exV_kV]
    have xe : ∀ g u v, exV (M g u v) e = kV e.isE (e.nm u) := fun g u v => by rw [exV_agree (ee g u v), exV_kV]
    have xf : ∀ g u v, exV (M g u v) f = kV f.isE (f.nm v) := fun g u v => by rw [exV_agree (ef g u v), exV_kV]
    have bm : ∀ {g u v}, Bx rows g → Bx rows u → Bx rows v → Bx rows (M g u v) := fun a b c => mx_bx a (mx_bx b c)
    have nn0 : ∀ g, (Nd.ite c e f).nm g = if c.nm g = 1 then e.nm g else f.nm g := fun g => by
      rw [nm_E rfl, nm_E (nd := e) w.2.1, nm_E (nd := f) w.2.2.1]
      show (if c.tru g = true then e.num g else f.num g) = _
      rw [nm_tru wc]
      by_cases hc : c.nm g = 1
      · rw [if_pos (decide_eq_true hc), if_pos hc]
      · rw [if_neg (by rw [decide_eq_false hc]; decide), if_neg hc]
    have nn : ∀ g u v, (Nd.ite c e f).nm (M g u v) = if c.nm g = 1 then e.nm u else f.nm v := fun g u v => by
      rw [nn0, nm_agree (ec g u v), nm_agree (ee g u v), nm_agree (ef g u v)]
    refine ⟨[M g1 u1 w1, M g1 u1 w2, M g1 u2 w1, M g1 u2 w2, M g2 u1 w1, M g2 u1 w2, M g2 u2 w1, M g2 u2 w2], ?_, (fun z => nomatch z), ?_, fun g bg => ?_⟩
    · show _ = [[exV (M g1 u1 w1) c, exV (M g1 u1 w1) e, exV (M g1 u1 w1) f], [exV (M g1 u1 w2) c, exV (M g1 u1 w2) e, exV (M g1 u1 w2) f], [exV (M g1 u2 w1) c, exV (M g1 u2 w1) e, exV (M g1 u2 w1) f], [exV (M g1 u2 w2) c, exV (M g1 u2 w2) e, exV (M g1 u2 w2) f],
        [exV (M g2 u1 w1) c, exV (M g2 u1 w1) e, exV (M g2 u1 w1) f], [exV (M g2 u1 w2) c, exV (M g2 u1 w2) e, exV (M g2 u1 w2) f], [exV (M g2 u2 w1) c, exV (M g2 u2 w1) e, exV (M g2 u2 w1) f], [exV (M g2 u2 w2) c, exV (M g2 u2 w2) e, exV (M g2 u2 w2) f]]
      simp only [xc, xe, xf]
      rfl
    · intro g hg
      simp only [List.mem_cons, List.not_mem_nil, or_false] at hg
      rcases hg with rfl | rfl | rfl | rfl | rfl | rfl | rfl | rfl
      · exact bm b1 c1 e1
      · exact bm b1 c1 e2
      · exact bm b1 c2 e1
      · exact bm b1 c2 e2
      · exact bm b2 c1 e1
      · exact bm b2 c1 e2
      · exact bm b2 c2 e1
      · exact bm b2 c2 e2
    · obtain ⟨p1, p2⟩ := h3 g bg
      obtain ⟨p3, p4⟩ := v3 g bg
      obtain ⟨p5, p6⟩ := x3 g bg
      have z0 := nm_01 (g := g) wc
      have z1 := nm_01 (g := g1) wc
      have z2 := nm_01 (g := g2) wc
      have hz : c.nm g = c.nm g1 ∨ c.nm g = c.nm g2 := by omega
      rw [nn0 g]
      rcases hz with hz | hz
      · rw [hz]
        refine ⟨⟨M g1 u1 w1, .head _, ?_⟩, ⟨M g1 u2 w2, .tail _ (.tail _ (.tail _ (.head _))), ?_⟩⟩
        · rw [nn]
          split <;> omega
        · rw [nn]
          split <;> omega
      · rw [hz]
        refine ⟨⟨M g2 u1 w1, .tail _ (.tail _ (.tail _ (.tail _ (.head _)))), ?_⟩, ⟨M g2 u2 w2, .tail _ (.tail _ (.tail _ (.tail _ (.tail _ (.tail _ (.tail _ (.head _))))))), ?_⟩⟩
        · rw [nn]
          split <;> omega
        · rw [nn]
          split <;> omega
end Cf

set_option exponentiation.threshold 20000
namespace Cf
open PySem PySem.Spec PyProof.Rows L2 Evl
/-! ## min and max of a list of ints, or of truths -/
def b01 (b : Bool) : Int := if b = true then 1 else 0
theorem cmp_bools_gt {prog : Program} {w : World} {A : Around} {P : Nat → Value → Prop} (val : Nat → Bool) (hval : ∀ i v, P i v → v = .bool (val i)) :
    CmpOf prog w A .Gt P (fun i j => decide (b01 (val i) > b01 (val j))) := fun i j vi vj s Q E hi hj h => by
  obtain rfl := hval i vi hi
  obtain rfl := hval j vj hj
  exact richCompare_gives (op := .Gt) (typeIs_bool' s _) (typeIs_bool' s _) PySem.F.slot_bool_gt PySem.F.entry_int_gt (PySem.F.args_int_gt_2 _ _) (gives_int_gt_bools _ _) (fun x => nomatch x) h
theorem cmp_bools_lt {prog : Program} {w : World} {A : Around} {P : Nat → Value → Prop} (val : Nat → Bool) (hval : ∀ i v, P i v → v = .bool (val i)) :
    CmpOf prog w A .Lt P (fun i j => decide (b01 (val i) < b01 (val j))) := fun i j vi vj s Q E hi hj h => by
  obtain rfl := hval i vi hi
  obtain rfl := hval j vj hj
  exact richCompare_gives (op := .Lt) (typeIs_bool' s _) (typeIs_bool' s _) PySem.F.slot_bool_lt PySem.F.entry_int_lt (PySem.F.args_int_lt_2 _ _) (gives_int_lt_bools _ _) (fun x => nomatch x) h
section
variable {prog : Program} {w : World} {A : Around} {E : Value → Shared → Prop} {s : Shared} {l : Addr} {bs : List Bool} {Q : Value → Shared → Prop}
theorem bools_at {i : Nat} {v : Value} (h : (bs.map Value.bool).toArray[i]? = some v) : v = .bool (bs.getD i false) := by
  rw [List.getElem?_toArray, List.getElem?_map] at h
  obtain ⟨b, hb, rfl⟩ := Option.map_eq_some_iff.mp h
  rw [List.getD_eq_getElem?_getD, hb]
  rfl
theorem getD_memB {i : Nat} (h : i < bs.length) : bs.getD i false ∈ bs := by
  rw [List.getD_eq_getElem?_getD, List.getElem?_eq_getElem h]
  exact List.getElem_mem h
theorem memB_getD {b : Bool} (h : b ∈ bs) : ∃ j, j < bs.length ∧ bs.getD j false = b := by
  obtain ⟨j, hj, rfl⟩ := List.getElem_of_mem h
  exact ⟨j, hj, by rw [List.getD_eq_getElem?_getD, List.getElem?_eq_getElem hj]; rfl⟩
theorem max_bools (hh : A.handled = none) (hl : s.heap.IsList l (bs.map Value.bool).toArray) (hne : 0 < bs.length)
    (h : ∀ h' tk M, (∀ b o, s.heap.get? b = some o → h'.get? b = some o) → M ∈ bs → (∀ a ∈ bs, b01 a ≤ b01 M) → Q (.bool M) { s with heap := h', toks := tk }) : wpAny (model prog w) A (call (.builtin "max") [.ref l]) Q E s := by
  refine call_max_walk (iter_anyList hl fun s₂ e st hfp hlI => ?_)
  subst e
  refine ⟨_, _, _, _, _, _, _, rfl, Walks.list (A := A.in1) hh _ l hlI (bs.map Value.bool).toArray, st, hfp, by simpa using hne, cmp_bools_gt (fun i => bs.getD i false) (fun _ _ => bools_at), fun v h' tk hP hk => ?_⟩
  obtain ⟨h1, h2⟩ := argBest_gt (fun i => b01 (bs.getD i false)) (bs.length - 1)
  have e : (bs.map Value.bool).toArray.size - 1 = bs.length - 1 := by simp
  rw [e] at hP
  rw [bools_at hP]
  refine h h' tk _ (PySem.old_kept hk) (getD_memB (by omega)) fun a ha => ?_
  obtain ⟨j, hj, rfl⟩ := memB_getD ha
  exact h2 j (by omega)
theorem min_bools (hh : A.handled = none) (hl : s.heap.IsList l (bs.map Value.bool).toArray) (hne : 0 < bs.length)
    (h : ∀ h' tk M, (∀ b o, s.heap.get? b = some o → h'.get? b = some o) → M ∈ bs → (∀ a ∈ bs, b01 M ≤ b01 a) → Q (.bool M) { s with heap := h', toks := tk }) : wpAny (model prog w) A (call (.builtin "min") [.ref l]) Q E s := by
  refine call_min_walk (iter_anyList hl fun s₂ e st hfp hlI => ?_)
  subst e
  refine ⟨_, _, _, _, _, _, _, rfl, Walks.list (A := A.in1) hh _ l hlI (bs.map Value.bool).toArray, st, hfp, by simpa using hne, cmp_bools_lt (fun i => bs.getD i false) (fun _ _ => bools_at), fun v h' tk hP hk => ?_⟩
  obtain ⟨h1, h2⟩ := argBest_lt (fun i => b01 (bs.getD i false)) (bs.length - 1)
  have e : (bs.map Value.bool).toArray.size - 1 = bs.length - 1 := by simp
  rw [e] at hP
  rw [bools_at hP]
  refine h h' tk _ (PySem.old_kept hk) (getD_memB (by omega)) fun a ha => ?_
  obtain ⟨j, hj, rfl⟩ := memB_getD ha
  exact h2 j (by omega)
end
theorem kV_tt : kV true = V.int := by funext n; rfl
theorem kV_ff : kV false = fun n => V.bl (decide (n = 1)) := by funext n; rfl
/-- the least, the greatest of a list of ints, or of truths -/
def rMinN (K : PySem.W.Frag) : List V → Hp → VK → Prop := fun vs H Q => ∃ (a : Addr) (e : Bool) (ns : List Int), vs = [V.ref a] ∧ SqL K H a (ns.map (kV e)) ∧ 0 < ns.length ∧ (e = false → ∀ n ∈ ns, n = 0 ∨ n = 1) ∧ ∀ m, m ∈ ns → (∀ y ∈ ns, m ≤ y) → Q (kV e m) H
def rMaxN (K : PySem.W.Frag) : List V → Hp → VK → Prop := fun vs H Q => ∃ (a : Addr) (e : Bool) (ns : List Int), vs = [V.ref a] ∧ SqL K H a (ns.map (kV e)) ∧ 0 < ns.length ∧ (e = false → ∀ n ∈ ns, n = 0 ∨ n = 1) ∧ ∀ m, m ∈ ns → (∀ y ∈ ns, y ≤ m) → Q (kV e m) H
theorem b01_of {n : Int} (h : n = 0 ∨ n = 1) : b01 (decide (n = 1)) = n := by rcases h with rfl | rfl <;> rfl
theorem cr_maxN {X : Cx} (hc : X.calm = true) : CallR X (.builtin "max") (rMaxN X.K) := by
  intro pins s σ H vs us Q I r h
  obtain ⟨a, e, ns, rfl, hs, hne, h01, q⟩ := h
  cases e with
  | true => exact cr_max hc pins s σ H _ us Q I r ⟨a, ns, rfl, by rw [← kV_tt]; exact hs, hne, fun m h1 h2 => by have := q m h1 h2; rw [kV_tt] at this; exact this⟩
  | false =>
    have hs : SqL X.K H a ((ns.map fun n => decide (n = 1)).map V.bl) := by rw [List.map_map]; rw [kV_ff] at hs; exact hs
    obtain ⟨its, rv, hl, _⟩ := I.list hs
    rw [Vals.ref1 r]
    have hl := hl.isList
    rw [Vals.bls rv] at hl
    refine max_bools (I.ok.hd hc) hl (by rw [List.length_map]; exact hne) fun h' tk M hk h1 h2 => ⟨.bl M, H, I.kept hk, rfl, ?_⟩
    obtain ⟨m, hm, rfl⟩ := List.mem_map.mp h1
    refine q m hm fun y hy => ?_
    have := h2 _ (List.mem_map_of_mem hy)
    rw [b01_of (h01 rfl y hy), b01_of (h01 rfl m hm)] at this
    exact this
theorem cr_minN {X : Cx} (hc : X.calm = true) : CallR X (.builtin "min") (rMinN X.K) := by
  intro pins s σ H vs us Q I r h
  obtain ⟨a, e, ns, rfl, hs, hne, h01, q⟩ := h
  cases e with
  | true => exact cr_min hc pins s σ H _ us Q I r ⟨a, ns, rfl, by rw [← kV_tt]; exact hs, hne, fun m h1 h2 => by have := q m h1 h2; rw [kV_tt] at this; exact this⟩
  | false =>
    have hs : SqL X.K H a ((ns.map fun n => decide (n = 1)).map V.bl) := by rw [List.map_map]; rw [kV_ff] at hs; exact hs
    obtain ⟨its, rv, hl, _⟩ := I.list hs
    rw [Vals.ref1 r]
    have hl := hl.isList
    rw [Vals.bls rv] at hl
    refine min_bools (I.ok.hd hc) hl (by rw [List.length_map]; exact hne) fun h' tk M hk h1 h2 => ⟨.bl M, H, I.kept hk, rfl, ?_⟩
    obtain ⟨m, hm, rfl⟩ := List.mem_map.mp h1
    refine q m hm fun y hy => ?_
    have := h2 _ (List.mem_map_of_mem hy)
    rw [b01_of (h01 rfl y hy), b01_of (h01 rfl m hm)] at this
    exact this
/-! ## what the program's pieces promise -/
/-- a list of pairs -/
def SpnAt (H : Hp) (l : Addr) (ss : List (V × V)) : Prop := ∃ ps : List Addr, H l = some (.lst (ps.map V.ref)) ∧ ps.length = ss.length ∧ ∀ (j : Nat) (s : V × V), ss[j]? = some s → ∃ p, ps[j]? = some p ∧ H p = some (.tup [s.1, s.2])
theorem SpnAt.ex {H H' : Hp} {l : Addr} {ss : List (V × V)} (h : SpnAt H l ss) (e : Ex H H') : SpnAt H' l ss := by
  obtain ⟨ps, a, b, c⟩ := h
  refine ⟨ps, e _ _ a, b, fun j s q => ?_⟩
  obtain ⟨p, p1, p2⟩ := c j s q
  exact ⟨p, p1, e _ _ p2⟩
/-- a list of lists -/
def LLAt (H : Hp) (l : Addr) (cs : List (List V)) : Prop := ∃ ps : List Addr, H l = some (.lst (ps.map V.ref)) ∧ ps.length = cs.length ∧ ∀ (j : Nat) (c : List V), cs[j]? = some c → ∃ p, ps[j]? = some p ∧ H p = some (.lst c)
theorem LLAt.ex {H H' : Hp} {l : Addr} {cs : List (List V)} (h : LLAt H l cs) (e : Ex H H') : LLAt H' l cs := by
  obtain ⟨ps, a, b, c⟩ := h
  refine ⟨ps, e _ _ a, b, fun j s q => ?_⟩
  obtain ⟨p, p1, p2⟩ := c j s q
  exact ⟨p, p1, e _ _ p2⟩
def spCorners : Sp := fun vs H Q _ => ∃ l ss, vs = [.ref l] ∧ SpnAt H l ss ∧ ss.length ≤ 3 ∧ ∀ c H', Ex H H' → LLAt H' c (crn ss) → Q (.ref c) H'
/-- the name -> range dict -/
def endL (L : List (Row × Addr)) : List (Key × V) := L.map fun x => (.inr x.1.name, .ref x.2)
theorem end_val {x : Row × Addr} : ∀ {L : List (Row × Addr)}, (L.map fun y => y.1.name).Nodup → x ∈ L → valV (endL L) (.inr x.1.name) = some (.ref x.2)
  | y :: L, hn, hx => by
    show valV ((.inr y.1.name, .ref y.2) :: endL L) _ = _
    rw [List.map_cons, List.nodup_cons] at hn
    rcases List.mem_cons.mp hx with rfl | hx
    · rw [valV_pos rfl]
    · rw [valV_neg (fun z => hn.1 (by rw [Sum.inr.inj z]; exact List.mem_map_of_mem hx))]
      exact end_val hn.2 hx
theorem end_none {n : Str} : ∀ {L : List (Row × Addr)}, n ∉ L.map (fun y => y.1.name) → valV (endL L) (.inr n) = none
  | [], _ => rfl
  | y :: L, h => by
    rw [List.map_cons, List.mem_cons] at h
    show valV ((.inr y.1.name, .ref y.2) :: endL L) _ = _
    rw [valV_neg (fun z => h (.inl (Sum.inr.inj z).symm))]
    exact end_none fun z => h (.inr z)
def EndsAt (H : Hp) (D : Addr) (rows : List Row) : Prop := ∃ L : List (Row × Addr), L.map Prod.fst = rows ∧ H D = some (.dK (endL L)) ∧ ∀ x ∈ L, H x.2 = some (.tup [.int x.1.low, .int x.1.high])
/-- the rows' ranges -/
def SpRows (H : Hp) (l : Addr) (rows : List Row) (its : List RowI) : Prop := ∃ ps : List Addr, H l = some (.lst (ps.map V.ref)) ∧ ps.length = its.length ∧ ∀ (j : Nat) (it : RowI), its[j]? = some it → ∃ p lo hi, ps[j]? = some p ∧ H p = some (.tup [kV it.2.1.isE lo, kV it.2.1.isE hi]) ∧ IsSp rows it.2.1 lo hi
structure RowsFit (rows : List Row) : Prop where
  z : rows.length ≤ 100
  nd : (rows.map Row.name).Nodup
  fit : ∀ w ∈ rows, w.Fit
theorem low_bx {rows : List Row} (h : RowsFit rows) : ∃ g, Bx rows g := by
  refine ⟨fun x => ((rows.find? fun w => decide (w.name = x)).map Row.low).getD 0, fun w hw => ?_, fun x => ?_⟩
  · have hf : rows.find? (fun v => decide (v.name = w.name)) = some w := by
      cases hq : rows.find? (fun v => decide (v.name = w.name)) with
      | none => exact absurd (decide_eq_true (rfl : w.name = w.name)) (List.find?_eq_none.mp hq w hw)
      | some v =>
        have h1 := List.find?_some hq
        have h2 := List.mem_of_find?_eq_some hq
        have h3 : v.name = w.name := of_decide_eq_true h1
        obtain ⟨i, hi, e1⟩ := List.getElem_of_mem h2
        obtain ⟨j, hj, e2⟩ := List.getElem_of_mem hw
        have := (List.getElem_inj (i := i) (j := j) (h₀ := by rw [List.length_map]; exact hi) (h₁ := by rw [List.length_map]; exact hj) h.nd).mp (by rw [List.getElem_map, List.getElem_map, e1, e2, h3])
        subst this
        rw [← e1, ← e2]
    have := (h.fit w hw).1
    dsimp only
    rw [hf]
    exact ⟨Int.le_refl _, this⟩
  · dsimp only
    cases hq : rows.find? (fun v => decide (v.name = x)) with
    | none => show (0 : Int).natAbs < 2 ^ 140; decide
    | some v =>
      have := (h.fit v (List.mem_of_find?_eq_some hq)).2.1
      show v.low.natAbs < _
      omega
theorem var_sp {rows : List Row} (h : RowsFit rows) {w : Row} (hw : w ∈ rows) : IsSp rows (.var w.name) w.low w.high := by
  obtain ⟨g, bg⟩ := low_bx h
  have same : ∀ v ∈ rows, v.name = w.name → v = w := fun v hv e => by
    obtain ⟨i, hi, e1⟩ := List.getElem_of_mem hv
    obtain ⟨j, hj, e2⟩ := List.getElem_of_mem hw
    have := (List.getElem_inj (i := i) (j := j) (h₀ := by rw [List.length_map]; exact hi) (h₁ := by rw [List.length_map]; exact hj) h.nd).mp (by rw [List.getElem_map, List.getElem_map, e1, e2, e])
    subst this
    rw [← e1, ← e2]
  obtain ⟨f1, f2, f3⟩ := h.fit w hw
  have put : ∀ i, w.low ≤ i → i ≤ w.high → i.natAbs < 2 ^ 140 → Bx rows fun x => if x = w.name then i else g x := fun i h1 h2 h3 => by
    refine ⟨fun v hv => ?_, fun x => ?_⟩
    · dsimp only
      split
      · rename_i e
        rw [same v hv e]
        exact ⟨h1, h2⟩
      · exact bg.1 v hv
    · dsimp only
      split
      · exact h3
      · exact bg.2 x
  refine ⟨⟨_, put w.low (Int.le_refl _) f1 (by omega), ?_⟩, ⟨_, put w.high f1 (Int.le_refl _) (by omega), ?_⟩, fun g' bg' => bg'.1 w hw⟩
  · rw [nm_E rfl]
    exact if_pos rfl
  · rw [nm_E rfl]
    exact if_pos rfl
/-- what is asked of a node in its rows -/
structure NdIn (rows : List Row) (nd : Nd) : Prop where
  wf : nd.wf
  sz : nd.size ≤ 30
  vs : ∀ x ∈ nd.vars, x ∈ rows.map Row.name
  nn : nd.vars.Nodup
theorem NdIn.part {rows : List Row} : ∀ (nd e : Nd), NdIn rows nd → e ∈ nd.parts → NdIn rows e := fun nd e h he => by
  refine ⟨(parts_wf h.wf e he).1, by have := (parts_wf h.wf e he).2; have := h.sz; omega, fun x hx => h.vs x (parts_vars he x hx), ?_⟩
  have hn := h.nn
  have two : ∀ {a b : List Str}, (a ++ b).Nodup → a.Nodup ∧ b.Nodup := fun q => ⟨(disj_of q).1, (disj_of q).2.1⟩
  match nd, hn, he with
  | .cast _ _, hn, he => rw [List.mem_singleton.mp he]; exact hn
  | .neg _, hn, he => rw [List.mem_singleton.mp he]; exact hn
  | .sh _ _ _, hn, he => rw [List.mem_singleton.mp he]; exact hn
  | .nt _, hn, he => rw [List.mem_singleton.mp he]; exact hn
  | .bin _ _ _, hn, he =>
    rcases List.mem_cons.mp he with rfl | he
    · exact (two hn).1
    · rw [List.mem_singleton.mp he]; exact (two hn).2
  | .cmp _ _ _, hn, he =>
    rcases List.mem_cons.mp he with rfl | he
    · exact (two hn).1
    · rw [List.mem_singleton.mp he]; exact (two hn).2
  | .lg _ _ _, hn, he =>
    rcases List.mem_cons.mp he with rfl | he
    · exact (two hn).1
    · rw [List.mem_singleton.mp he]; exact (two hn).2
  | .ite _ _ _, hn, he =>
    rcases List.mem_cons.mp he with rfl | he
    · exact (two hn).1
    · rcases List.mem_cons.mp he with rfl | he
      · exact (two (two hn).2).1
      · rw [List.mem_singleton.mp he]; exact (two (two hn).2).2
  | .var _, _, he => exact nomatch he
  | .lit _ _, _, he => exact nomatch he
def spSpans (K : PySem.W.Frag) : Sp := fun vs H Q _ => ∃ lv l rows its X, vs = [.ref lv, .ref l] ∧ VarsAt H lv rows ∧ RowsFit rows ∧ RowsAt K H l its X ∧ RowsOk its ∧ its.length ≤ 100 ∧ (∀ it ∈ its, NdIn rows it.2.1) ∧ ∀ r H', Ex H H' → SpRows H' r rows its → Q (.ref r) H'
def spBounds (K : PySem.W.Frag) : Sp := fun vs H Q _ => ∃ l p rows nd, vs = [.ref l, .ref p] ∧ VarsAt H l rows ∧ RowsFit rows ∧ (∀ w ∈ rows, nameOk w.name = true) ∧ TreeAt H p nd ∧ NdIn rows nd ∧ ∀ q lo hi H', Ex H H' → H' q = some (.tup [kV nd.isE lo, kV nd.isE hi]) → IsSp rows nd lo hi → Q (.ref q) H'
def spOutc (K : PySem.W.Frag) : Sp := fun vs H Q _ => ∃ l p rows nd, vs = [.ref l, .ref p] ∧ VarsAt H l rows ∧ RowsFit rows ∧ (∀ w ∈ rows, nameOk w.name = true) ∧ TreeAt H p nd ∧ NdIn rows nd ∧ nd.isE = false ∧ ∀ q lo hi H', Ex H H' → H' q = some (.tup [.bl (decide (hi = 1)), .bl (!decide (lo = 1))]) → IsSp rows nd lo hi → Q (.ref q) H'
end Cf

set_option exponentiation.threshold 20000
namespace Cf
open PySem PySem.Spec PyProof.Rows L2 Evl
/-! ## a list comprehension of two clauses, both walked -/
abbrev LcTurn1 (g1 : TG) (tt1 : TT) (te : TE) (vs1 : List Nat) (τ : L2.St) (D : Addr) (x : V) (F : Hp) (Nx1 : Hp → Prop) : Prop :=
  g1 x (wipe τ vs1) F fun σ3 H5 => wipe σ3 vs1 = wipe τ vs1 ∧ tt1 σ3 H5 fun b H6 => if b = true then te σ3 H6 fun y H7 => ∃ acc, H7 D = some (.lst acc) ∧ acc.length < sizeLine ∧ Nx1 (upd H7 D (.lst (acc ++ [y]))) else Nx1 H6
abbrev LcTurn2 (g : TG) (tt : TT) (wi1 : TI) (g1 : TG) (tt1 : TT) (te : TE) (vs vs1 : List Nat) (σ : L2.St) (D : Addr) (x : V) (F : Hp) (Nx : Hp → Prop) : Prop :=
  g x (wipe σ vs) F fun σ2 H2 => wipe σ2 vs = wipe σ vs ∧ tt σ2 H2 fun b H3 =>
    if b = true then wi1 σ2 H3 fun J1 H4 => ∃ W1 : Nat → Nat → Hp → Prop, (∃ m, W1 0 m H4) ∧ ∀ j k H, W1 j k H →
      (J1.stop j H ∧ Nx H) ∨ (J1.go j H ∧ ∃ Nx1 : Hp → Prop, (∀ H', Nx1 H' → ∃ k', k' < k ∧ W1 (j + 1) k' H') ∧ ∀ x H', J1.yld j H x H' → LcTurn1 g1 tt1 te vs1 σ2 D x H' Nx1)
    else Nx H3
theorem lc2_walk {J : It} {n : Nat} {G : Hp → Prop} {Y : Nat → Hp → V → Hp → Prop} (w : Walk J n G Y) {g : TG} {tt : TT} {wi1 : TI} {g1 : TG} {tt1 : TT} {te : TE} {vs vs1 : List Nat} {σ : L2.St} {H1 : Hp} {D : Addr} {Qd : Hp → Prop} (Pv : Nat → Hp → Prop) (p0 : Pv 0 (upd H1 D (.lst []))) (pG : ∀ c F, c ≤ n → Pv c F → G F)
    (ps : ∀ c x F F', c < n → Pv c F → Y c F x F' → LcTurn2 g tt wi1 g1 tt1 te vs vs1 σ D x F' (Pv (c + 1))) (pd : ∀ F, Pv n F → Qd F) :
    ∃ W : Nat → Nat → Hp → Prop, (∃ r, W 0 r (upd H1 D (.lst []))) ∧ ∀ c r F, W c r F → (J.stop c F ∧ Qd F) ∨ (J.go c F ∧ ∃ Nx : Hp → Prop, (∀ F', Nx F' → ∃ r', r' < r ∧ W (c + 1) r' F') ∧ ∀ x F', J.yld c F x F' → LcTurn2 g tt wi1 g1 tt1 te vs vs1 σ D x F' Nx) := by
  refine ⟨fun c r F => r = n - c ∧ c ≤ n ∧ Pv c F, ⟨n, by simp, Nat.zero_le _, p0⟩, fun c r F hw => ?_⟩
  obtain ⟨rfl, hc, hp⟩ := hw
  rcases Nat.lt_or_eq_of_le hc with lt | eq
  · exact .inr ⟨w.goes c F lt (pG c F hc hp), Pv (c + 1), fun F' p' => ⟨n - (c + 1), by omega, rfl, lt, p'⟩, fun x F' y => ps c x F F' lt hp (w.yields c F x F' lt (pG c F hc hp) y)⟩
  · subst eq
    exact .inl ⟨w.stops F (pG c F hc hp), pd F hp⟩
theorem lc2_in {J : It} {n : Nat} {G : Hp → Prop} {Y : Nat → Hp → V → Hp → Prop} (w : Walk J n G Y) {g1 : TG} {tt1 : TT} {te : TE} {vs1 : List Nat} {τ : L2.St} {H4 : Hp} {D : Addr} {Nx : Hp → Prop} (Pv : Nat → Hp → Prop) (p0 : Pv 0 H4) (pG : ∀ c F, c ≤ n → Pv c F → G F)
    (ps : ∀ c x F F', c < n → Pv c F → Y c F x F' → LcTurn1 g1 tt1 te vs1 τ D x F' (Pv (c + 1))) (pd : ∀ F, Pv n F → Nx F) :
    ∃ W : Nat → Nat → Hp → Prop, (∃ r, W 0 r H4) ∧ ∀ c r F, W c r F → (J.stop c F ∧ Nx F) ∨ (J.go c F ∧ ∃ Nx1 : Hp → Prop, (∀ F', Nx1 F' → ∃ r', r' < r ∧ W (c + 1) r' F') ∧ ∀ x F', J.yld c F x F' → LcTurn1 g1 tt1 te vs1 τ D x F' Nx1) := by
  refine ⟨fun c r F => r = n - c ∧ c ≤ n ∧ Pv c F, ⟨n, by simp, Nat.zero_le _, p0⟩, fun c r F hw => ?_⟩
  obtain ⟨rfl, hc, hp⟩ := hw
  rcases Nat.lt_or_eq_of_le hc with lt | eq
  · exact .inr ⟨w.goes c F lt (pG c F hc hp), Pv (c + 1), fun F' p' => ⟨n - (c + 1), by omega, rfl, lt, p'⟩, fun x F' y => ps c x F F' lt hp (w.yields c F x F' lt (pG c F hc hp) y)⟩
  · subst eq
    exact .inl ⟨w.stops F (pG c F hc hp), pd F hp⟩
/-- the lists so far, of which none is the list of them -/
def LLB (H : Hp) (D : Addr) (cs : List (List V)) : Prop := ∃ ps : List Addr, H D = some (.lst (ps.map V.ref)) ∧ ps.length = cs.length ∧ ∀ (j : Nat) (c : List V), cs[j]? = some c → ∃ p, ps[j]? = some p ∧ H p = some (.lst c) ∧ p ≠ D
theorem LLB.at {H : Hp} {D : Addr} {cs : List (List V)} (h : LLB H D cs) : LLAt H D cs := by
  obtain ⟨ps, a, b, c⟩ := h
  refine ⟨ps, a, b, fun j x q => ?_⟩
  obtain ⟨p, p1, p2, _⟩ := c j x q
  exact ⟨p, p1, p2⟩
theorem LLB.add {H : Hp} {D q : Addr} {cs : List (List V)} {c : List V} (h : LLB H D cs) (hq : H q = some (.lst c)) (nq : q ≠ D) {acc : List V} (ha : H D = some (.lst acc)) : acc.length = cs.length ∧ LLB (upd H D (.lst (acc ++ [.ref q]))) D (cs ++ [c]) := by
  obtain ⟨ps, a, b, k⟩ := h
  rw [ha] at a
  cases a
  refine ⟨by rw [List.length_map]; exact b, ps ++ [q], by rw [upd_same, List.map_append]; rfl, by rw [List.length_append, List.length_append, b]; rfl, fun j x hj => ?_⟩
  by_cases hlt : j < cs.length
  · rw [List.getElem?_append_left hlt] at hj
    obtain ⟨p, p1, p2, p3⟩ := k j x hj
    exact ⟨p, by rw [List.getElem?_append_left (by omega)]; exact p1, by rw [upd_ne p3]; exact p2, p3⟩
  · rw [List.getElem?_append_right (by omega)] at hj
    have hz : j - cs.length = 0 := by
      have := (List.getElem?_eq_some_iff.mp hj).1
      simp at this
      omega
    rw [hz] at hj
    have hj : c = x := Option.some.inj hj
    subst hj
    exact ⟨q, by rw [List.getElem?_append_right (by omega), b, hz]; rfl, by rw [upd_ne nq]; exact hq, nq⟩
theorem LLB.ex {H H' : Hp} {D : Addr} {cs : List (List V)} (h : LLB H D cs) (e : Ex H H') : LLB H' D cs := by
  obtain ⟨ps, a, b, c⟩ := h
  refine ⟨ps, e _ _ a, b, fun j x q => ?_⟩
  obtain ⟨p, p1, p2, p3⟩ := c j x q
  exact ⟨p, p1, e _ _ p2, p3⟩
theorem LLB.list {H : Hp} {D : Addr} {cs : List (List V)} (h : LLB H D cs) : ∃ acc, H D = some (.lst acc) ∧ acc.length = cs.length := by
  obtain ⟨ps, a, b, _⟩ := h
  exact ⟨_, a, by rw [List.length_map]; exact b⟩
theorem addC_len {s : V × V} : ∀ cs : List (List V), (addC cs s).length = 2 * cs.length
  | [] => rfl
  | c :: cs => by
    have ih := addC_len (s := s) cs
    show ([c ++ [s.1], c ++ [s.2]] ++ addC cs s).length = _
    rw [List.length_append, ih]
    simp only [List.length_cons, List.length_nil]
    omega
/-- [corner + [end] for corner in found for end in span] -/
theorem lc2_corners {K : PySem.W.Frag} {H : Hp} {Q : VK} {l a p : Addr} {y3 y4 : Option V} {cs : List (List V)} {s : V × V} (hc : LLAt H a cs) (hp : H p = some (.tup [s.1, s.2])) (hz : cs.length ≤ 1000) (hzz : ∀ c ∈ cs, c.length ≤ 1000)
    (k : ∀ D H', Ex H H' → LLAt H' D (addC cs s) → Q (.ref D) H') :
    tLc2 (iList K (tVar 1)) (gName 3) tYes (iTup K (tVar 2)) (gName 4) tYes (tOp rCat (tVar 3) (tLst (tCons (tVar 4) tNil))) [3, 4] [4] [some (.ref l), some (.ref a), some (.ref p), y3, y4] H Q := by
  obtain ⟨ps, hl, hlen, hrow⟩ := id hc
  refine ⟨_, rfl, a, rfl, ⟨_, sq_of hl⟩, fun D nD => ?_⟩
  have exH : ∀ {G : Hp}, Bu D H G → Ex H G := fun bu b o q => bu b o (fun z => by rw [z, nD] at q; exact nomatch q) q
  have hpl : (ps.map V.ref).length = cs.length := by rw [List.length_map, hlen]
  have nb : ∀ {x : Addr} {o : HO}, H x = some o → x ≠ D := fun h z => by rw [z, nD] at h; exact nomatch h
  refine lc2_walk (n := (ps.map V.ref).length) walk_list (fun i G => Bu D H G ∧ LLB G D (addC (cs.take i) s)) ⟨fun b o n q => by rw [upd_ne n]; exact q, [], upd_same, rfl, fun j c h => nomatch h⟩ (fun i G _ h => sq_of (h.1 _ _ (nb hl) hl)) ?_ ?_
  · intro i x G G' hi hpv hy
    obtain ⟨bu, hL⟩ := hpv
    obtain ⟨rfl, hx⟩ := hy
    rw [List.getElem?_map] at hx
    obtain ⟨q, hq, rfl⟩ := Option.map_eq_some_iff.mp hx
    have hic : i < cs.length := by rw [← hpl]; exact hi
    have hci : cs[i]? = some cs[i] := List.getElem?_eq_getElem hic
    obtain ⟨q2, w1, w2⟩ := hrow i cs[i] hci
    rw [hq] at w1
    cases w1
    have hci2 := hzz _ (List.mem_of_getElem? hci)
    have htk : addC (cs.take (i + 1)) s = addC (cs.take i) s ++ [cs[i] ++ [s.1], cs[i] ++ [s.2]] := by
      rw [List.take_add_one, hci]
      unfold addC
      rw [List.flatMap_append]
      rfl
    have hln : (addC (cs.take i) s).length = 2 * i := by rw [addC_len, List.length_take]; omega
    rw [htk]
    generalize addC (cs.take i) s = A at hL hln
    generalize cs[i] = c at w2 hci2
    refine (⟨rfl, ?_⟩ : _ ∧ _)
    dsimp only [tYes, List.set]
    rw [if_pos rfl]
    refine ⟨_, rfl, p, rfl, ⟨_, st_of (exH bu _ _ hp)⟩, ?_⟩
    refine lc2_in (n := [s.1, s.2].length) walk_tup (fun j F => Bu D H F ∧ LLB F D (A ++ [c ++ [s.1], c ++ [s.2]].take j)) ⟨bu, by rw [List.take_zero, List.append_nil]; exact hL⟩ (fun j F _ h => st_of (exH h.1 _ _ hp)) ?_ fun F h => h
    intro j x F F' hj hpv hy
    obtain ⟨bF, hF⟩ := hpv
    obtain ⟨rfl, hx⟩ := hy
    have hA : [c ++ [s.1], c ++ [s.2]].take (j + 1) = [c ++ [s.1], c ++ [s.2]].take j ++ [c ++ [x]] := by
      match j, hx with
      | 0, hx => cases (Option.some.inj hx); rfl
      | 1, hx => cases (Option.some.inj hx); rfl
      | j + 2, hx => simp at hx
    refine (⟨rfl, ?_⟩ : _ ∧ _)
    dsimp only [tYes, List.set]
    rw [if_pos rfl]
    refine el_catV (xs := c) (ys := [x]) (ev_var rfl) (bF _ _ (nb w2) w2) (el_lst (ea_cons (ev_var rfl) ea_nil) (by show 1 ≤ _; decide)) (by show c.length + 1 ≤ 100000; omega) F' (Ex.refl F') _ fun q2 F2 n2 e2 h2 => ?_
    obtain ⟨acc, ha, hal⟩ := hF.list
    have ha2 := e2 _ _ ha
    have nq2 : q2 ≠ D := fun z => by rw [z, ha] at n2; exact nomatch n2
    obtain ⟨_, hN⟩ := (hF.ex e2).add h2 nq2 ha2
    refine ⟨acc, ha2, sz_lt (by rw [hal, List.length_append, List.length_take, hln]; have : [c ++ [s.1], c ++ [s.2]].length = 2 := rfl; omega), fun b o n z => by rw [upd_ne n]; exact e2 _ _ (bF b o n z), ?_⟩
    rw [hA, ← List.append_assoc]
    exact hN
  · intro G hpv
    obtain ⟨bu, hL⟩ := hpv
    rw [hpl, List.take_length] at hL
    exact k D G (exH bu) hL.at
theorem crn_len (ss : List (V × V)) : (crn ss).length = 2 ^ ss.length ∧ ∀ c ∈ crn ss, c.length = ss.length := by
  have key : ∀ (ss : List (V × V)) (cs : List (List V)) (n : Nat), (∀ c ∈ cs, c.length = n) → (ss.foldl addC cs).length = cs.length * 2 ^ ss.length ∧ ∀ c ∈ ss.foldl addC cs, c.length = n + ss.length := by
    intro ss
    induction ss with
    | nil => exact fun cs n h => ⟨by simp, fun c hc => h c hc⟩
    | cons s ss ih =>
      intro cs n h
      have h1 : ∀ c ∈ addC cs s, c.length = n + 1 := fun c hc => by
        obtain ⟨d, hd, hm⟩ := List.mem_flatMap.mp hc
        rcases List.mem_cons.mp hm with rfl | hm
        · rw [List.length_append, h d hd]; rfl
        · rw [List.mem_singleton.mp hm, List.length_append, h d hd]; rfl
      have h2 : (addC cs s).length = cs.length * 2 := by rw [addC_len]; omega
      obtain ⟨a, b⟩ := ih (addC cs s) (n + 1) h1
      refine ⟨?_, fun c hc => by rw [b c hc, List.length_cons]; omega⟩
      show (ss.foldl addC (addC cs s)).length = _
      rw [a, h2, List.length_cons, Nat.pow_succ, Nat.mul_assoc, Nat.mul_comm 2]
  obtain ⟨a, b⟩ := key ss [[]] 0 (fun c hc => by rw [List.mem_singleton.mp hc]; rfl)
  exact ⟨by show (ss.foldl addC [[]]).length = _; rw [a]; simp, fun c hc => by rw [b c hc]; omega⟩
theorem crn_take {ss : List (V × V)} {i : Nat} {s : V × V} (h : ss[i]? = some s) : crn (ss.take (i + 1)) = addC (crn (ss.take i)) s := by
  unfold crn
  rw [List.take_add_one, h]
  simp only [Option.toList_some, List.foldl_append, List.foldl_cons, List.foldl_nil]
theorem sps_of {rows : List Row} {G : Hp} {ps : List Addr} : ∀ (es : List Nd) (pls : List Nat), pls.length = es.length → (∀ (c : Nat) (e : Nd), es[c]? = some e → ∃ x p lo hi, pls[c]? = some x ∧ ps[x]? = some p ∧ G p = some (.tup [kV e.isE lo, kV e.isE hi]) ∧ IsSp rows e lo hi) →
    ∃ ss, SpsOf rows es ss ∧ ss.length = es.length ∧ ∀ (c : Nat) (s : V × V), ss[c]? = some s → ∃ x p, pls[c]? = some x ∧ ps[x]? = some p ∧ G p = some (.tup [s.1, s.2])
  | [], [], _, _ => ⟨[], .nil, rfl, fun c s h => nomatch h⟩
  | e :: es, y :: pls, hl, h => by
    obtain ⟨ss, a, b, k⟩ := sps_of es pls (by simpa using hl) fun c e' he => by
      obtain ⟨x, p, lo, hi, q1, q2⟩ := h (c + 1) e' he
      exact ⟨x, p, lo, hi, q1, q2⟩
    obtain ⟨x, p, lo, hi, q1, q2, q3, q4⟩ := h 0 e rfl
    refine ⟨_, .cons q4 a, by rw [List.length_cons, List.length_cons, b], fun c s hs => ?_⟩
    match c, hs with
    | 0, hs =>
      cases (Option.some.inj hs)
      exact ⟨x, p, q1, q2, q3⟩
    | c + 1, hs => exact k c s hs
  | [], _ :: _, hl, _ => by simp at hl
  | _ :: _, [], hl, _ => by simp at hl
theorem ev_minN {K : PySem.W.Frag} {σ : L2.St} {H : Hp} {ta : TE} {a : Addr} {e : Bool} {ns : List Int} {m : Int} (ha : Ev ta σ H (.ref a)) (h : H a = some (.lst (ns.map (kV e)))) (hm : m ∈ ns) (hl : ∀ y ∈ ns, m ≤ y) (h01 : e = false → ∀ n ∈ ns, n = 0 ∨ n = 1) : Ev (tCB (rMinN K) (tCons ta tNil)) σ H (kV e m) := fun H1 e1 Q q =>
  ha H1 e1 _ fun H2 e2 => ⟨a, e, ns, rfl, sq_of ((e1.trans e2) _ _ h), List.length_pos_of_mem hm, h01, fun m' h1 h2 => by
    have : m' = m := by
      have u := h2 m hm
      have v := hl m' h1
      omega
    subst this
    exact q H2 e2⟩
theorem ev_maxN {K : PySem.W.Frag} {σ : L2.St} {H : Hp} {ta : TE} {a : Addr} {e : Bool} {ns : List Int} {m : Int} (ha : Ev ta σ H (.ref a)) (h : H a = some (.lst (ns.map (kV e)))) (hm : m ∈ ns) (hl : ∀ y ∈ ns, y ≤ m) (h01 : e = false → ∀ n ∈ ns, n = 0 ∨ n = 1) : Ev (tCB (rMaxN K) (tCons ta tNil)) σ H (kV e m) := fun H1 e1 Q q =>
  ha H1 e1 _ fun H2 e2 => ⟨a, e, ns, rfl, sq_of ((e1.trans e2) _ _ h), List.length_pos_of_mem hm, h01, fun m' h1 h2 => by
    have : m' = m := by
      have u := h2 m hm
      have v := hl m' h1
      omega
    subst this
    exact q H2 e2⟩
theorem least_of : ∀ {ns : List Int}, ns ≠ [] → ∃ m ∈ ns, ∀ y ∈ ns, m ≤ y
  | [], h => absurd rfl h
  | [n], _ => ⟨n, .head _, fun y hy => by rw [List.mem_singleton.mp hy]; exact Int.le_refl _⟩
  | n :: k :: ns, _ => by
    obtain ⟨m, hm, h⟩ := least_of (ns := k :: ns) (fun z => nomatch z)
    rcases Int.le_total n m with c | c
    · refine ⟨n, .head _, fun y hy => ?_⟩
      rcases List.mem_cons.mp hy with rfl | hy
      · exact Int.le_refl _
      · exact Int.le_trans c (h y hy)
    · refine ⟨m, .tail _ hm, fun y hy => ?_⟩
      rcases List.mem_cons.mp hy with rfl | hy
      · exact c
      · exact h y hy
theorem most_of : ∀ {ns : List Int}, ns ≠ [] → ∃ m ∈ ns, ∀ y ∈ ns, y ≤ m
  | [], h => absurd rfl h
  | [n], _ => ⟨n, .head _, fun y hy => by rw [List.mem_singleton.mp hy]; exact Int.le_refl _⟩
  | n :: k :: ns, _ => by
    obtain ⟨m, hm, h⟩ := most_of (ns := k :: ns) (fun z => nomatch z)
    rcases Int.le_total m n with c | c
    · refine ⟨n, .head _, fun y hy => ?_⟩
      rcases List.mem_cons.mp hy with rfl | hy
      · exact Int.le_refl _
      · exact Int.le_trans (h y hy) c
    · refine ⟨m, .tail _ hm, fun y hy => ?_⟩
      rcases List.mem_cons.mp hy with rfl | hy
      · exact c
      · exact h y hy
/-- the least and the greatest at the corners are the range's -/
theorem cor_sp {rows : List Row} {nd : Nd} {ss : List (V × V)} {Gs : List (Str → Int)} (h : Cor rows nd ss Gs) : ∃ lo hi, IsSp rows nd lo hi ∧ lo ∈ Gs.map (fun g => nd.nm g) ∧ (∀ y ∈ Gs.map (fun g => nd.nm g), lo ≤ y) ∧ hi ∈ Gs.map (fun g => nd.nm g) ∧ ∀ y ∈ Gs.map (fun g => nd.nm g), y ≤ hi := by
  obtain ⟨_, h2, h3, h4⟩ := h
  have hne : Gs.map (fun g => nd.nm g) ≠ [] := fun z => h2 (List.map_eq_nil_iff.mp z)
  obtain ⟨lo, l1, l2⟩ := least_of hne
  obtain ⟨hi, m1, m2⟩ := most_of hne
  refine ⟨lo, hi, ⟨?_, ?_, fun g bg => ?_⟩, l1, l2, m1, m2⟩
  · obtain ⟨g, hg, e⟩ := List.mem_map.mp l1
    exact ⟨g, h3 g hg, e⟩
  · obtain ⟨g, hg, e⟩ := List.mem_map.mp m1
    exact ⟨g, h3 g hg, e⟩
  · obtain ⟨⟨g1, k1, k2⟩, ⟨g2, k3, k4⟩⟩ := h4 g bg
    exact ⟨Int.le_trans (l2 _ (List.mem_map_of_mem k1)) k2, Int.le_trans k4 (m2 _ (List.mem_map_of_mem k3))⟩
theorem SpRows.add {H : Hp} {l q : Addr} {rows : List Row} {its : List RowI} {it : RowI} {lo hi : Int} (h : SpRows H l rows its) (hq : H q = some (.tup [kV it.2.1.isE lo, kV it.2.1.isE hi])) (hs : IsSp rows it.2.1 lo hi) {acc : List V} (ha : H l = some (.lst acc)) : acc.length = its.length ∧ SpRows (upd H l (.lst (acc ++ [.ref q]))) l rows (its ++ [it]) := by
  obtain ⟨ps, a, b, k⟩ := h
  rw [ha] at a
  cases a
  have nt : ∀ {p : Addr} {xs : List V}, H p = some (.tup xs) → p ≠ l := fun h z => by rw [z, ha] at h; exact nomatch h
  refine ⟨by rw [List.length_map]; exact b, ps ++ [q], by rw [upd_same, List.map_append]; rfl, by rw [List.length_append, List.length_append, b]; rfl, fun j x hj => ?_⟩
  by_cases hlt : j < its.length
  · rw [List.getElem?_append_left hlt] at hj
    obtain ⟨p, lo, hi, p1, p2, p3⟩ := k j x hj
    exact ⟨p, lo, hi, by rw [List.getElem?_append_left (by omega)]; exact p1, by rw [upd_ne (nt p2)]; exact p2, p3⟩
  · rw [List.getElem?_append_right (by omega)] at hj
    have hz : j - its.length = 0 := by
      have := (List.getElem?_eq_some_iff.mp hj).1
      simp at this
      omega
    rw [hz] at hj
    have hj : it = x := Option.some.inj hj
    subst hj
    exact ⟨q, lo, hi, by rw [List.getElem?_append_right (by omega), b, hz]; rfl, by rw [upd_ne (nt hq)]; exact hq, hs⟩
theorem SpRows.ex {H H' : Hp} {l : Addr} {rows : List Row} {its : List RowI} (h : SpRows H l rows its) (e : Ex H H') : SpRows H' l rows its := by
  obtain ⟨ps, a, b, k⟩ := h
  refine ⟨ps, e _ _ a, b, fun j it hj => ?_⟩
  obtain ⟨p, lo, hi, p1, p2, p3⟩ := k j it hj
  exact ⟨p, lo, hi, p1, e _ _ p2, p3⟩
theorem SpRows.list {H : Hp} {l : Addr} {rows : List Row} {its : List RowI} (h : SpRows H l rows its) : ∃ acc, H l = some (.lst acc) ∧ acc.length = its.length := by
  obtain ⟨ps, a, b, _⟩ := h
  exact ⟨_, a, by rw [List.length_map]; exact b⟩
end Cf

set_option exponentiation.threshold 20000
namespace Cf
open PySem PySem.Spec PyProof.Rows L2 Evl
/-- {row[0]: (row[2], row[3]) for row in variables} -/
theorem dc_ends {K : PySem.W.Frag} {H : Hp} {Q : VK} {lv l : Addr} {rows : List Row} (hV : VarsAt H lv rows) (hz : rows.length ≤ 100) (hnd : (rows.map Row.name).Nodup) (k : ∀ D H', H D = none → Ex H H' → EndsAt H' D rows → Q (.ref D) H') :
    tDc (iList K (tVar 0)) (gName 8) tYes (tOp (rIxT K) (tVar 8) (tC (.int 0))) (tTup (tCons (tOp (rIxT K) (tVar 8) (tC (.int 2))) (tCons (tOp (rIxT K) (tVar 8) (tC (.int 3))) tNil))) [8] [some (.ref lv), some (.ref l), none, none, none, none, none, none, none, none, none] H Q := by
  obtain ⟨ps, hl, hlen, hrow⟩ := id hV
  have hpl : (ps.map V.ref).length = rows.length := by rw [List.length_map, hlen]
  refine ⟨_, rfl, lv, rfl, ⟨_, sq_of hl⟩, fun Dl nD => ?_⟩
  have nlD : lv ≠ Dl := fun z => by rw [← z, hl] at nD; exact nomatch nD
  have exH : ∀ {G : Hp}, Bu Dl H G → Ex H G := fun bu b o q => bu b o (fun z => by rw [z, nD] at q; exact nomatch q) q
  refine dc_walk (n := (ps.map V.ref).length) walk_list (fun i G => Bu Dl H G ∧ EndsAt G Dl (rows.take i)) ⟨fun b o nb q => by rw [upd_ne nb]; exact q, [], rfl, upd_same, fun x h => nomatch h⟩ (fun i G _ h => sq_of (h.1 _ _ nlD hl)) ?_ ?_
  · intro i x G G' hi hp hy
    obtain ⟨bu, L, hL, hD, hT⟩ := hp
    obtain ⟨rfl, hx⟩ := hy
    rw [List.getElem?_map] at hx
    obtain ⟨q, hq, rfl⟩ := Option.map_eq_some_iff.mp hx
    have hir : i < rows.length := by rw [← hpl]; exact hi
    have hri : rows[i]? = some rows[i] := List.getElem?_eq_getElem hir
    obtain ⟨p2, q1, q2⟩ := hrow i rows[i] hri
    rw [hq] at q1
    cases q1
    have hnew : rows[i].name ∉ L.map fun y => y.1.name := fun hm => by
      have e : (L.map fun y => y.1.name) = (rows.take i).map Row.name := by rw [← hL, List.map_map]; rfl
      rw [e, List.map_take] at hm
      obtain ⟨j, hj1, hj2⟩ := List.getElem_of_mem hm
      rw [List.length_take] at hj1
      rw [List.getElem_take] at hj2
      have := (List.getElem_inj (i := j) (j := i) (h₀ := by omega) (h₁ := by rw [List.length_map]; exact hir) hnd).mp (by rw [hj2, List.getElem_map])
      omega
    have htk : rows.take (i + 1) = rows.take i ++ [rows[i]] := by
      rw [List.take_add_one, hri]
      rfl
    have hln : L.length ≤ 100 := by
      have : L.length = (rows.take i).length := by rw [← hL, List.length_map]
      rw [this, List.length_take]
      omega
    rw [htk]
    generalize rows[i] = wr at q2 hnew
    have q3 := exH bu _ _ q2
    refine (⟨rfl, ?_⟩ : _ ∧ _)
    dsimp only [tYes, List.set]
    rw [if_pos rfl]
    refine (ev_op (ev_var rfl) ev_c (rv_ixT (st_of q3) (atI_nat (j := 0) rfl))) G' (Ex.refl G') _ fun G1 e1 => (eu_tup (ea_cons (ev_op (ev_var rfl) ev_c (rv_ixT (st_of (e1 _ _ q3)) (atI_nat (j := 2) rfl))) (ea_cons (ev_op (ev_var rfl) ev_c (rv_ixT (st_of (e1 _ _ q3)) (atI_nat (j := 3) rfl))) ea_nil)) (by show 2 ≤ _; decide)) G1 (Ex.refl G1) _ fun pq G2 nq e2 hq2 => ⟨_, .inr wr.name, rfl, (e1.trans e2) _ _ hD, ?_, fun b o nb z => ?_, L ++ [(wr, pq)], ?_, ?_, fun y hy => ?_⟩
    · unfold endL
      rw [List.length_map]
      exact sz_lt (by omega)
    · rw [upd_ne nb]
      exact (e1.trans e2) _ _ (bu b o nb z)
    · rw [List.map_append, hL]
      rfl
    · rw [upd_same, putK_new _ (end_none hnew)]
      unfold endL
      rw [List.map_append]
      rfl
    · have nt : ∀ {p : Addr} {xs : List V}, G2 p = some (.tup xs) → p ≠ Dl := fun h z => by rw [z, (e1.trans e2) _ _ hD] at h; exact nomatch h
      rcases List.mem_append.mp hy with hy | hy
      · have := (e1.trans e2) _ _ (hT y hy)
        rw [upd_ne (nt this)]
        exact this
      · rw [List.mem_singleton.mp hy, upd_ne (nt hq2)]
        exact hq2
  · intro G hp
    obtain ⟨bu, hD⟩ := hp
    rw [hpl, List.take_length] at hD
    exact k Dl G nD (exH bu) hD
theorem ends_at {H : Hp} {D : Addr} {rows : List Row} (h : EndsAt H D rows) (hnd : (rows.map Row.name).Nodup) {w : Row} (hw : w ∈ rows) : ∃ L p, H D = some (.dK (endL L)) ∧ valV (endL L) (.inr w.name) = some (.ref p) ∧ H p = some (.tup [.int w.low, .int w.high]) := by
  obtain ⟨L, h1, h2, h3⟩ := h
  rw [← h1] at hw
  obtain ⟨x, hx, rfl⟩ := List.mem_map.mp hw
  exact ⟨L, x.2, h2, end_val (by have e : (L.map fun y => y.1.name) = rows.map Row.name := by rw [← h1, List.map_map]; rfl
                                 rw [e]; exact hnd) hx, h3 x hx⟩
theorem EndsAt.bu {H H' : Hp} {D kl : Addr} {rows : List Row} (h : EndsAt H D rows) (nk : D ≠ kl) (ht : ∃ xs, H kl = some (.lst xs)) (e : Bu kl H H') : EndsAt H' D rows := by
  obtain ⟨L, h1, h2, h3⟩ := h
  obtain ⟨xs, hx⟩ := ht
  exact ⟨L, h1, e _ _ nk h2, fun x hm => e _ _ (fun z => by have := h3 x hm; rw [z, hx] at this; exact nomatch this) (h3 x hm)⟩
/-- what a list comprehension asks behind its source -/
abbrev LcTail (g : TG) (tt : TT) (te : TE) (vs : List Nat) (σ : L2.St) (Q : VK) (J : It) (H1 : Hp) : Prop := ∀ D, H1 D = none → ∃ W : Nat → Nat → Hp → Prop, (∃ m, W 0 m (upd H1 D (.lst []))) ∧ ∀ i m H, W i m H →
  (J.stop i H ∧ Q (.ref D) H) ∨ (J.go i H ∧ ∃ Nx : Hp → Prop, (∀ H', Nx H' → ∃ m', m' < m ∧ W (i + 1) m' H') ∧ ∀ x H', J.yld i H x H' → g x (wipe σ vs) H' fun σ2 H2 => wipe σ2 vs = wipe σ vs ∧ tt σ2 H2 fun b H3 =>
    if b = true then te σ2 H3 fun y H4 => ∃ acc, H4 D = some (.lst acc) ∧ acc.length < sizeLine ∧ Nx (upd H4 D (.lst (acc ++ [y]))) else Nx H3)
/-- over a list that stands, each item's value known -/
theorem lc_tail {K : PySem.W.Frag} {te : TE} {σ : L2.St} {H1 : Hp} {j : Nat} {vs : List Nat} {a : Addr} {xs : List V} {Q : VK} (v : Nat → V) (hx : SqL K H1 a xs) (hz : xs.length ≤ 40000) (hw : ∀ x, wipe ((wipe σ vs).set j (some x)) vs = wipe σ vs)
    (he : ∀ (i : Nat) (x : V) H2, Ex H1 H2 → xs[i]? = some x → Ev te ((wipe σ vs).set j (some x)) H2 (v i)) (q : ∀ D G, H1 D = none → Ex H1 G → G D = some (.lst (given xs.length (fun _ => true) v)) → Q (.ref D) G) : LcTail (gName j) tYes te vs σ Q (Itl K a) H1 := fun Dl hD =>
  lc_it walk_list (Cw H1 (fun _ => true) v Dl) ⟨hD, Ex.new hD, upd_same⟩ (fun i G _ p => ex_l p.2.1 hx) (fun i x G G' hi p y => by
    obtain ⟨rfl, hc⟩ := y
    exact ⟨hw _, cw_turn p (by omega) (fun H3 e3 Q q => q H3 (Ex.refl H3)) (fun hf => he i x H1 (Ex.refl H1) hc)⟩) (fun G p => q Dl G p.1 p.2.1 p.2.2)
/-- a list comprehension over what a value gives, said by what is known of it -/
theorem lc_of {K : PySem.W.Frag} {tl te : TE} {σ : L2.St} {H : Hp} {j : Nat} {vs : List Nat} {Q : VK} (good : Addr → Hp → Prop) (h : ∀ R : VK, (∀ a H1, good a H1 → R (.ref a) H1) → tl σ H R) (hw : ∀ x, wipe ((wipe σ vs).set j (some x)) vs = wipe σ vs)
    (hg : ∀ a H1, good a H1 → ∃ (xs : List V) (v : Nat → V), SqL K H1 a xs ∧ xs.length ≤ 40000 ∧ (∀ (i : Nat) (x : V) H2, Ex H1 H2 → xs[i]? = some x → Ev te ((wipe σ vs).set j (some x)) H2 (v i)) ∧ ∀ D G, H1 D = none → Ex H1 G → G D = some (.lst (given xs.length (fun _ => true) v)) → Q (.ref D) G) :
    tLc (iList K tl) (gName j) tYes te vs σ H Q := h _ fun a H1 p => by
  obtain ⟨xs, v, h1, h2, h3, h4⟩ := hg a H1 p
  exact ⟨a, rfl, ⟨_, h1⟩, lc_tail v h1 h2 hw h3 h4⟩
end Cf

set_option exponentiation.threshold 20000
namespace Cf
open PySem PySem.Spec PyProof.Rows L2 Evl
/-- spans_of(variables, rows_of(expression)) -/
theorem spans_rows {K : PySem.W.Frag} {σ : L2.St} {H : Hp} {l p : Addr} {rows : List Row} {nd : Nd} {Q : VK} {E E' : XK} (s0 : σ[0]? = some (some (.ref l))) (s1 : σ[1]? = some (some (.ref p))) (hV : VarsAt H l rows) (hF : RowsFit rows) (hT : TreeAt H p nd) (hI : NdIn rows nd)
    (k : ∀ R H' (ps : List V) q lo hi, Ex H H' → H' R = some (.lst (ps ++ [.ref q])) → H' q = some (.tup [kV nd.isE lo, kV nd.isE hi]) → IsSp rows nd lo hi → Q (.ref R) H') :
    tCall (spSpans K) [] E (tCons (tVar 0) (tCons (tCall (spRows K) [] E' (tCons (tVar 1) tNil)) tNil)) σ H Q := by
  refine (?_ : tCons _ _ _ _ _)
  refine ea_at (ev_var s0) fun H1 e1 => ?_
  refine (?_ : tCons _ _ _ _ _)
  refine (?_ : tCall _ _ _ _ _ _ _)
  refine ea_at (ev_var s1) fun H2 e2 => ?_
  have e12 := e1.trans e2
  refine ⟨p, nd, (fun _ => False), rfl, hT.ex e12, hI.sz, (fun x h => h.elim), fun rl H3 n3 e3 hR => ?_⟩
  have e13 := e12.trans e3
  have hrok : RowsOk (rowsF 30 nd [] 0) := rows_ok 30 nd [] [] hI.sz (fun j pt nd2 pl h => nomatch h)
  have hall : ∀ it ∈ rowsF 30 nd [] 0, NdIn rows it.2.1 := rows_all (P := NdIn rows) NdIn.part 30 nd [] 0 hI
  have hlast := rowsF_end (d := 29) (nd := nd) (pt := []) (n := 0)
  have hln := rows_len 30 nd [] 0 hI.sz
  have hsz := hI.sz
  refine ⟨l, rl, rows, rowsF 30 nd [] 0, _, rfl, hV.ex e13, hF, hR, hrok, by omega, hall, fun R H4 e4 hS => ?_⟩
  obtain ⟨ps, a, b, c⟩ := hS
  have e30 : rowsF 30 nd [] 0 = rowsF (29 + 1) nd [] 0 := rfl
  rw [e30, hlast] at b c
  have hle : (rowsP 29 nd [] 0 nd.parts.length ++ [([], nd, (List.range nd.parts.length).map (plF nd.parts 0))])[(rowsP 29 nd [] 0 nd.parts.length).length]? = some (([] : List Nat), nd, (List.range nd.parts.length).map (plF nd.parts 0)) := by
    rw [List.getElem?_append_right (Nat.le_refl _), Nat.sub_self]
    rfl
  obtain ⟨q, lo, hi, q1, q2, q3⟩ := c _ _ hle
  have hps : ps = ps.take (rowsP 29 nd [] 0 nd.parts.length).length ++ [q] := by
    have h1 : ps.length = (rowsP 29 nd [] 0 nd.parts.length).length + 1 := by rw [b, List.length_append]; rfl
    have h2 := List.take_add_one (i := (rowsP 29 nd [] 0 nd.parts.length).length) (l := ps)
    rw [q1, List.take_of_length_le (by omega)] at h2
    exact h2
  refine k R H4 ((ps.take (rowsP 29 nd [] 0 nd.parts.length).length).map V.ref) q lo hi (e13.trans e4) ?_ q2 q3
  rw [a]
  conv => lhs; rw [hps]
  rw [List.map_append]
  rfl
end Cf

set_option exponentiation.threshold 20000
namespace Cf
open PySem PySem.Spec PyProof.Rows L2 Evl
/-! ## expressions drawn out of a bag -/
def BagA (H : Hp) (bg gl : Addr) (n : Nat) : Prop := ∃ (gs : List Int) (left t bl : Int), H bg = some (.dK (bagL gl left t bl)) ∧ H gl = some (.lst (gs.map V.int)) ∧ 0 ≤ t ∧ t ≤ n ∧ 0 ≤ bl ∧ bl < 2305843009213693951 ∧ gs.length ≤ 100
theorem BagA.ex {H H' : Hp} {bg gl : Addr} {n : Nat} (h : BagA H bg gl n) (e : Ex H H') : BagA H' bg gl n := by
  obtain ⟨gs, left, t, bl, a, b, c⟩ := h
  exact ⟨gs, left, t, bl, e _ _ a, e _ _ b, c⟩
theorem BagA.le {H : Hp} {bg gl : Addr} {n k : Nat} (h : BagA H bg gl n) (e : n ≤ k) : BagA H bg gl k := by
  obtain ⟨gs, left, t, bl, a, b, c1, c2, c3⟩ := h
  exact ⟨gs, left, t, bl, a, b, c1, by omega, c3⟩
/-- all stands but the bag -/
def Bg (bg gl : Addr) (H H' : Hp) : Prop := ∀ q o, q ≠ bg → q ≠ gl → H q = some o → H' q = some o
theorem Bg.of {bg gl : Addr} {H H' : Hp} (e : Ex H H') : Bg bg gl H H' := fun q o _ _ h => e q o h
theorem Bg.trans {bg gl : Addr} {H H1 H2 : Hp} (x : Bg bg gl H H1) (y : Bg bg gl H1 H2) : Bg bg gl H H2 := fun q o n1 n2 h => y q o n1 n2 (x q o n1 n2 h)
theorem Bg.upb {bg gl : Addr} {H : Hp} {o : HO} : Bg bg gl H (upd H bg o) := fun q _ n _ h => by rw [upd_ne n]; exact h
theorem Bg.upl {bg gl : Addr} {H : Hp} {o : HO} : Bg bg gl H (upd H gl o) := fun q _ _ n h => by rw [upd_ne n]; exact h
theorem BagA.nt {H : Hp} {bg gl q : Addr} {n : Nat} (h : BagA H bg gl n) {xs : List V} (k : H q = some (.tup xs)) : q ≠ bg ∧ q ≠ gl := by
  obtain ⟨gs, left, t, bl, a, b, c⟩ := h
  exact ⟨(fun z => by rw [z, a] at k; exact nomatch k), (fun z => by rw [z, b] at k; exact nomatch k)⟩
theorem BagA.tk {H H' : Hp} {bg gl : Addr} {n : Nat} (h : BagA H bg gl n) (e : Bg bg gl H H') : TupK H H' := fun q xs k => e q _ (h.nt k).1 (h.nt k).2 k
theorem BagA.ne {H : Hp} {bg gl q : Addr} {n : Nat} (h : BagA H bg gl n) (k : H q = none) : q ≠ bg ∧ q ≠ gl := by
  obtain ⟨gs, left, t, bl, a, b, c⟩ := h
  exact ⟨(fun z => by rw [z, a] at k; exact nomatch k), (fun z => by rw [z, b] at k; exact nomatch k)⟩
def spBagA (K : PySem.W.Frag) : Sp := fun vs H Q _ => ∃ (a : Addr) (ns : List Int), vs = [.ref a] ∧ SqL K H a (ns.map V.int) ∧ ns.length ≤ 63 ∧ ∀ bg gl H', H bg = none → H gl = none → Ex H H' → BagA H' bg gl 0 → Q (.ref bg) H'
def spBD : Sp := fun vs H Q _ => ∃ bg gl many n, vs = [.ref bg, .int many] ∧ 0 < many ∧ many.natAbs < 2 ^ 200 ∧ n ≤ 2 ^ 20 ∧ BagA H bg gl n ∧ ∀ H' v, Bg bg gl H H' → BagA H' bg gl (n + 1) → 0 ≤ v → v < many → Q (.int v) H'
theorem bd_at {σ : L2.St} {H : Hp} {ta : TA} {bg gl : Addr} {l : Int} {n : Nat} {E : XK} {Q : VK} (h : EvA ta σ H [.ref bg, .int l]) (l0 : 0 < l) (l1 : l.natAbs < 2 ^ 200) (hn : n ≤ 2 ^ 20) (g : BagA H bg gl n)
    (k : ∀ H' v, Bg bg gl H H' → BagA H' bg gl (n + 1) → 0 ≤ v → v < l → Q (.int v) H') : tCall spBD [] E ta σ H Q :=
  h H (Ex.refl H) _ fun H1 e1 => ⟨bg, gl, l, n, rfl, l0, l1, hn, g.ex e1, fun H' v b g2 v0 v1 => k H' v ((Bg.of e1).trans b) g2 v0 v1⟩
theorem words_kinds : (Txt.words ("char schar uchar short ushort int uint long ulong wide uwide" : Str)).map V.str = vKINDS := by decide +kernel
/-- the bag, and the names that are left -/
structure BP (H : Hp) (bg gl na : Addr) (n : Nat) (xs : List Str) : Prop where
  b : BagA H bg gl n
  h : H na = some (.lst (xs.map V.str))
  g : na ≠ gl
theorem BP.nb {H : Hp} {bg gl na : Addr} {n : Nat} {xs : List Str} (p : BP H bg gl na n xs) : na ≠ bg := fun z => by
  obtain ⟨gs, left, t, bl, a, _⟩ := p.b
  have := p.h
  rw [z, a] at this
  exact nomatch this
theorem BP.ex {H H' : Hp} {bg gl na : Addr} {n : Nat} {xs : List Str} (p : BP H bg gl na n xs) (e : Ex H H') : BP H' bg gl na n xs := ⟨p.b.ex e, e _ _ p.h, p.g⟩
theorem BP.le {H : Hp} {bg gl na : Addr} {n k : Nat} {xs : List Str} (p : BP H bg gl na n xs) (e : n ≤ k) : BP H bg gl na k xs := ⟨p.b.le e, p.h, p.g⟩
theorem BP.bd {H H' : Hp} {bg gl na : Addr} {n k : Nat} {xs : List Str} (p : BP H bg gl na n xs) (e : Bg bg gl H H') (b : BagA H' bg gl k) : BP H' bg gl na k xs := ⟨b, e _ _ p.nb p.g p.h, p.g⟩
theorem BP.nt {H : Hp} {bg gl na q : Addr} {n : Nat} {xs : List Str} (p : BP H bg gl na n xs) {ys : List V} (k : H q = some (.tup ys)) : q ≠ bg ∧ q ≠ gl ∧ q ≠ na := ⟨(p.b.nt k).1, (p.b.nt k).2, fun z => by have := p.h; rw [← z, k] at this; exact nomatch this⟩
theorem BP.tk {H H' : Hp} {bg gl na : Addr} {n : Nat} {xs : List Str} (p : BP H bg gl na n xs) (e : Bs bg gl na H H') : TupK H H' := fun q ys k => e q _ (p.nt k).1 (p.nt k).2.1 (p.nt k).2.2 k
theorem Bs.bg {bg gl na : Addr} {H H' : Hp} (e : Bg bg gl H H') : Bs bg gl na H H' := fun q o n1 n2 _ h => e q o n1 n2 h
theorem bp_at {σ : L2.St} {H : Hp} {ta : TA} {bg gl na : Addr} {l : Int} {n : Nat} {xs : List Str} {E : XK} {Q : VK} (h : EvA ta σ H [.ref bg, .int l]) (l0 : 0 < l) (l1 : l.natAbs < 2 ^ 200) (hn : n ≤ 2 ^ 20) (p : BP H bg gl na n xs)
    (k : ∀ H' v, Bs bg gl na H H' → BP H' bg gl na (n + 1) xs → 0 ≤ v → v < l → Q (.int v) H') : tCall spBD [] E ta σ H Q :=
  bd_at h l0 l1 hn p.b fun H' v b g v0 v1 => k H' v (.bg b) (p.bd b g) v0 v1
/-- its literals are small -/
def Nd.lsm : Nd → Prop
  | .var _ => True | .lit n _ => n < 2 ^ 20 | .cast _ e => e.lsm | .neg e => e.lsm | .bin _ e f => e.lsm ∧ f.lsm | .sh _ e _ => e.lsm | .ite c e f => c.lsm ∧ e.lsm ∧ f.lsm | .cmp _ e f => e.lsm ∧ f.lsm | .nt c => c.lsm | .lg _ c d => c.lsm ∧ d.lsm
/-- bits of its number, from 20 at a leaf on -/
def Nd.nb : Nd → Nat
  | .var _ => 20 | .lit _ _ => 20 | .cast _ e => e.nb | .neg e => e.nb | .bin _ e f => e.nb + f.nb + 1 | .sh _ e k => e.nb + k.toNat | .ite _ e f => max e.nb f.nb | .cmp _ _ _ => 0 | .nt _ => 0 | .lg _ _ _ => 0
theorem num_nb {g : Str → Int} (hg : ∀ x, (g x).natAbs < 2 ^ 20) : ∀ {nd : Nd}, nd.wf → nd.lsm → (nd.num g).natAbs < 2 ^ nd.nb
  | .var x, _, _ => hg x
  | .lit n s, w, l => by
    have h0 := w.1
    have h1 : n < 2 ^ 20 := l
    show n.natAbs < 2 ^ 20
    omega
  | .cast k e, w, l => by
    have ih := num_nb hg (nd := e) w.2 l
    exact ih
  | .neg e, w, l => by
    show (- e.num g).natAbs < _
    rw [Int.natAbs_neg]
    exact num_nb hg w.2 l
  | .bin o e f, w, l => by
    have ih := num_nb hg w.2.2.1 l.1
    have jh := num_nb hg w.2.2.2 l.2
    have h4 : 2 ^ e.nb ≤ 2 ^ (e.nb + f.nb) := pw_le (by omega)
    have h5 : 2 ^ f.nb ≤ 2 ^ (e.nb + f.nb) := pw_le (by omega)
    have h6 : 2 ^ (e.nb + f.nb + 1) = 2 ^ (e.nb + f.nb) * 2 := Nat.pow_succ _ _
    show (o.op (e.num g) (f.num g)).natAbs < 2 ^ (e.nb + f.nb + 1)
    cases o with
    | add => simp only [Bo.op]; omega
    | sub => simp only [Bo.op]; omega
    | mul =>
      simp only [Bo.op, Int.natAbs_mul]
      have h7 : (e.num g).natAbs * (f.num g).natAbs < 2 ^ e.nb * 2 ^ f.nb := Nat.mul_lt_mul'' ih jh
      rw [← Nat.pow_add] at h7
      omega
  | .sh true e k, w, l => by
    have ih := num_nb hg w.2.1 l
    have h7 : (e.num g).natAbs * 2 ^ k.toNat < 2 ^ e.nb * 2 ^ k.toNat := Nat.mul_lt_mul_of_pos_right ih (Nat.pow_pos (by decide))
    rw [← Nat.pow_add] at h7
    have h9 : ((2 : Int) ^ k.toNat).natAbs = 2 ^ k.toNat := by rw [Int.natAbs_pow]; rfl
    show (e.num g * 2 ^ k.toNat).natAbs < 2 ^ (e.nb + k.toNat)
    rw [Int.natAbs_mul, h9]
    exact h7
  | .sh false e k, w, l => by
    have ih := num_nb hg w.2.1 l
    have h3 := Int.natAbs_ediv_le_natAbs (e.num g) (2 ^ k.toNat)
    have h2 : 2 ^ e.nb ≤ 2 ^ (e.nb + k.toNat) := pw_le (by omega)
    show (e.num g / 2 ^ k.toNat).natAbs < 2 ^ (e.nb + k.toNat)
    omega
  | .ite c e f, w, l => by
    have ih := num_nb hg w.2.2.2.2.1 l.2.1
    have jh := num_nb hg w.2.2.2.2.2 l.2.2
    have h4 : 2 ^ e.nb ≤ 2 ^ (max e.nb f.nb) := pw_le (Nat.le_max_left _ _)
    have h5 : 2 ^ f.nb ≤ 2 ^ (max e.nb f.nb) := pw_le (Nat.le_max_right _ _)
    show (if c.tru g = true then e.num g else f.num g).natAbs < 2 ^ (max e.nb f.nb)
    split <;> omega
  | .cmp b e f, _, _ => by show (0 : Int).natAbs < _; exact Nat.pow_pos (by decide)
  | .nt c, _, _ => by show (0 : Int).natAbs < _; exact Nat.pow_pos (by decide)
  | .lg b c d, _, _ => by show (0 : Int).natAbs < _; exact Nat.pow_pos (by decide)
/-- bits that a room gives -/
def nF (r : Nat) : Nat := if r ≤ 15 then [0, 20, 23, 41, 44, 47, 50, 83, 86, 89, 92, 95, 98, 101, 104, 167].getD r 0 else 11 * r + 9
theorem nF_small : ∀ r : Nat, r ≤ 15 → nF r ≤ 11 * r + 9 ∧ (1 ≤ r → 20 ≤ nF r) ∧ (2 ≤ r → nF (r - 1) + 3 ≤ nF r) ∧ (3 ≤ r → 2 * nF ((r - 1) / 2) + 1 ≤ nF r) ∧ (4 ≤ r → nF ((r - 1) / 3) ≤ nF r) := by decide
theorem nF_le {r : Nat} : nF r ≤ 11 * r + 9 := by
  by_cases h : r ≤ 15
  · exact (nF_small r h).1
  · unfold nF
    rw [if_neg h]
    exact Nat.le_refl _
theorem nF_big {r : Nat} (h : ¬ r ≤ 15) : nF r = 11 * r + 9 := if_neg h
theorem nF_leaf {r : Nat} (h : 1 ≤ r) : 20 ≤ nF r := by
  by_cases h15 : r ≤ 15
  · exact (nF_small r h15).2.1 h
  · rw [nF_big h15]; omega
theorem nF_one {r : Nat} (h : 2 ≤ r) : nF (r - 1) + 3 ≤ nF r := by
  by_cases h15 : r ≤ 15
  · exact (nF_small r h15).2.2.1 h
  · rw [nF_big h15]
    have := nF_le (r := r - 1)
    omega
theorem nF_two {r : Nat} (h : 3 ≤ r) : 2 * nF ((r - 1) / 2) + 1 ≤ nF r := by
  by_cases h15 : r ≤ 15
  · exact (nF_small r h15).2.2.2.1 h
  · rw [nF_big h15]
    have := nF_le (r := (r - 1) / 2)
    omega
theorem nF_three {r : Nat} (h : 4 ≤ r) : nF ((r - 1) / 3) ≤ nF r := by
  by_cases h15 : r ≤ 15
  · exact (nF_small r h15).2.2.2.2 h
  · rw [nF_big h15]
    have := nF_le (r := (r - 1) / 3)
    omega
/-- what a drawn expression is -/
structure BOk (nd : Nd) (xs ys : List Str) (r : Nat) : Prop where
  wf : nd.wf
  sz : nd.size ≤ 2 * r + 1
  sE : nd.isE = true → nd.size + 1 ≤ 2 * r
  pm : (nd.vars ++ ys).Perm xs
  nb : nd.nb ≤ nF r
  ls : nd.lsm
def spBLeaf : Sp := fun vs H Q _ => ∃ bg gl na n xs, vs = [.ref bg, .ref na] ∧ n + 6 ≤ 2 ^ 20 ∧ xs.length ≤ 100 ∧ BP H bg gl na n xs ∧ ∀ p nd ys H', Bs bg gl na H H' → BP H' bg gl na (n + 6) ys → TreeAt H' p nd → nd.isE = true → nd.size = 1 → BOk nd xs ys 1 → Q (.ref p) H'
def wt (e : Bool) : Nat := if e then 1 else 3
def spBT (e : Bool) (d : Nat) : Sp := fun vs H Q _ => ∃ bg gl na n xs r, vs = [.ref bg, .ref na, .int (r : Nat)] ∧ 1 ≤ r ∧ r ≤ d ∧ n + 8 * (2 * r + wt e) ≤ 2 ^ 20 ∧ xs.length ≤ 100 ∧ BP H bg gl na n xs ∧
  ∀ p nd ys H', Bs bg gl na H H' → BP H' bg gl na (n + 8 * nd.size) ys → TreeAt H' p nd → nd.isE = e → BOk nd xs ys r → Q (.ref p) H'
theorem bt_at {e : Bool} {d : Nat} {σ : L2.St} {H : Hp} {ta : TA} {bg gl na : Addr} {n r : Nat} {xs : List Str} {E : XK} {Q : VK} (h : EvA ta σ H [.ref bg, .ref na, .int (r : Nat)]) (r1 : 1 ≤ r) (rd : r ≤ d) (hn : n + 8 * (2 * r + wt e) ≤ 2 ^ 20) (hx : xs.length ≤ 100) (p : BP H bg gl na n xs)
    (k : ∀ q nd ys H', Bs bg gl na H H' → BP H' bg gl na (n + 8 * nd.size) ys → TreeAt H' q nd → nd.isE = e → BOk nd xs ys r → Q (.ref q) H') : tCall (spBT e d) [] E ta σ H Q :=
  h H (Ex.refl H) _ fun H1 e1 => ⟨bg, gl, na, n, xs, r, rfl, r1, rd, hn, hx, p.ex e1, fun q nd ys H' b => k q nd ys H' ((Bs.of e1).trans b)⟩
theorem no_bt {e : Bool} {vs : List V} {H : Hp} {Q : VK} {E : XK} (h : spBT e 0 vs H Q E) : False := by
  obtain ⟨bg, gl, na, n, xs, r, _, h1, h2, _⟩ := h
  omega
theorem BOk.len {nd : Nd} {xs ys : List Str} {r : Nat} (h : BOk nd xs ys r) : ys.length ≤ xs.length := by
  have := h.pm.length_eq
  rw [List.length_append] at this
  omega
/-- one part -/
theorem BOk.one {e N : Nd} {xs ys : List Str} {r : Nat} (h : BOk e xs ys (r - 1)) (r2 : 2 ≤ r) (hw : N.wf) (hv : N.vars = e.vars) (hs : N.size = 1 + e.size) (he : N.isE = true → e.isE = true) (hb : N.nb ≤ e.nb + 3) (hl : N.lsm) : BOk N xs ys r := by
  refine ⟨hw, by rw [hs]; have := h.sz; omega, fun z => by have := h.sE (he z); rw [hs]; omega, by rw [hv]; exact h.pm, Nat.le_trans hb (Nat.le_trans (Nat.add_le_add_right h.nb 3) (nF_one r2)), hl⟩
theorem BOk.pm2 {e f : Nd} {xs ys zs : List Str} {a b : Nat} (h : BOk e xs ys a) (k : BOk f ys zs b) : ((e.vars ++ f.vars) ++ zs).Perm xs := by
  rw [List.append_assoc]
  exact (List.Perm.append_left _ k.pm).trans h.pm
end Cf

set_option exponentiation.threshold 20000
namespace Cf
open PySem PySem.Spec PyProof.Rows L2 Evl
theorem BP.pop {H : Hp} {bg gl na : Addr} {n k : Nat} {xs : List Str} (p : BP H bg gl na n xs) : BP (upd H na (.lst ((xs.map V.str).eraseIdx k))) bg gl na n (xs.eraseIdx k) ∧ Bs bg gl na H (upd H na (.lst ((xs.map V.str).eraseIdx k))) := by
  refine ⟨⟨?_, by rw [upd_same, erase_map], p.g⟩, fun q o _ _ n3 h => by rw [upd_ne n3]; exact h⟩
  obtain ⟨gs, left, t, bl, a, b, c⟩ := p.b
  exact ⟨gs, left, t, bl, by rw [upd_ne (Ne.symm p.nb)]; exact a, by rw [upd_ne (Ne.symm p.g)]; exact b, c⟩
def bsuf : List Str := ["", "", "", "u", "l", "ul", "w", "uw"]
theorem bsuf_ok : ∀ s ∈ bsuf, s ∈ sufs := by decide +kernel
/-- one of the items of a written tuple -/
theorem tup_pick {K : PySem.W.Frag} {σ : L2.St} {H : Hp} {bg gl na : Addr} {n : Nat} {ns : List Str} {E : XK} {Q : VK} {ta tl : TA} {m : Int} {xs : List V} (hl : EvA ta σ H xs) (hz : xs.length ≤ 100) (hm : m = (xs.length : Nat)) (h0 : 1 ≤ xs.length) (p : BP H bg gl na n ns) (hn : n ≤ 2 ^ 20) (ht : ∀ H1, Ex H H1 → EvA tl σ H1 [.ref bg, .int m])
    (k : ∀ (H' : Hp) (v : V) (i : Nat), Bs bg gl na H H' → BP H' bg gl na (n + 1) ns → xs[i]? = some v → Q v H') : tOp (rIxT K) (tTup ta) (tCall spBD [] E tl) σ H Q := by
  refine op_raw ((eu_tup hl (by omega)) H (Ex.refl H) _ fun t H1 n1 e1 h1 => ?_)
  refine bp_at (l := m) (n := n) (ht H1 e1) (by omega) (by omega) hn (p.ex e1) fun H2 v b2 p2 v0 v1 => ?_
  obtain ⟨i, rfl⟩ : ∃ i : Nat, v = (i : Int) := ⟨v.toNat, by omega⟩
  have hi : i < xs.length := by omega
  have ht2 := b2 _ _ ((p.ex e1).nt h1).1 ((p.ex e1).nt h1).2.1 ((p.ex e1).nt h1).2.2 h1
  exact ⟨t, _, (i : Int), xs[i], rfl, rfl, st_of ht2, atI_nat (List.getElem?_eq_getElem hi), k H2 _ i ((Bs.of e1).trans b2) p2 (List.getElem?_eq_getElem hi)⟩
/-- the same where no names stand by -/
theorem tup_pickB {K : PySem.W.Frag} {σ : L2.St} {H : Hp} {bg gl : Addr} {n : Nat} {E : XK} {Q : VK} {ta tl : TA} {m : Int} {xs : List V} (hl : EvA ta σ H xs) (hz : xs.length ≤ 100) (hm : m = (xs.length : Nat)) (h0 : 1 ≤ xs.length) (p : BagA H bg gl n) (hn : n ≤ 2 ^ 20) (ht : ∀ H1, Ex H H1 → EvA tl σ H1 [.ref bg, .int m])
    (k : ∀ (H' : Hp) (v : V) (i : Nat), Bg bg gl H H' → BagA H' bg gl (n + 1) → xs[i]? = some v → Q v H') : tOp (rIxT K) (tTup ta) (tCall spBD [] E tl) σ H Q := by
  refine op_raw ((eu_tup hl (by omega)) H (Ex.refl H) _ fun t H1 n1 e1 h1 => ?_)
  refine bd_at (l := m) (n := n) (ht H1 e1) (by omega) (by omega) hn (p.ex e1) fun H2 v b2 p2 v0 v1 => ?_
  obtain ⟨i, rfl⟩ : ∃ i : Nat, v = (i : Int) := ⟨v.toNat, by omega⟩
  have hi : i < xs.length := by omega
  have ht2 := b2 _ _ ((p.ex e1).nt h1).1 ((p.ex e1).nt h1).2 h1
  exact ⟨t, _, (i : Int), xs[i], rfl, rfl, st_of ht2, atI_nat (List.getElem?_eq_getElem hi), k H2 _ i ((Bg.of e1).trans b2) p2 (List.getElem?_eq_getElem hi)⟩
/-- _law_sorts()[_law_draw(bag, 11)] -/
theorem sort_pick {K : PySem.W.Frag} {σ : L2.St} {H : Hp} {bg gl na : Addr} {n : Nat} {ns : List Str} {E E' : XK} {Q : VK} {tl : TA} (p : BP H bg gl na n ns) (hn : n ≤ 2 ^ 20) (ht : ∀ H1, Ex H H1 → EvA tl σ H1 [.ref bg, .int 11])
    (k : ∀ H' (kd : Kd), Bs bg gl na H H' → BP H' bg gl na (n + 1) ns → Q kd.v H') : tOp (rIxL K) (tCall (PL (preNil vKINDS)) [] E' tNil) (tCall spBD [] E tl) σ H Q := by
  refine op_raw (?_ : tCall _ _ _ _ _ _ _)
  refine (?_ : tNil _ _ _)
  refine ⟨vKINDS, ⟨rfl, rfl⟩, fun t H1 n1 e1 h1 => ?_⟩
  refine bp_at (l := 11) (n := n) (ht H1 e1) (by decide) (by decide) hn (p.ex e1) fun H2 v b2 p2 v0 v1 => ?_
  obtain ⟨i, rfl⟩ : ∃ i : Nat, v = (i : Int) := ⟨v.toNat, by omega⟩
  have hi : i < vKINDS.length := by show i < 11; omega
  obtain ⟨kd, _, hkd⟩ := kd_at (List.getElem?_eq_getElem hi)
  have tb : t ≠ bg ∧ t ≠ gl ∧ t ≠ na := ⟨(p.b.ne n1).1, (p.b.ne n1).2, fun z => by rw [z, p.h] at n1; exact nomatch n1⟩
  have ht2 := b2 _ _ tb.1 tb.2.1 tb.2.2 h1
  exact ⟨t, vKINDS, (i : Int), kd.v, rfl, rfl, sq_of ht2, atI_nat (by rw [List.getElem?_eq_getElem hi, hkd]), k H2 kd ((Bs.of e1).trans b2) p2⟩
theorem sort_pickB {K : PySem.W.Frag} {σ : L2.St} {H : Hp} {bg gl : Addr} {n : Nat} {E E' : XK} {Q : VK} {tl : TA} (p : BagA H bg gl n) (hn : n ≤ 2 ^ 20) (ht : ∀ H1, Ex H H1 → EvA tl σ H1 [.ref bg, .int 11])
    (k : ∀ H' (kd : Kd), Bg bg gl H H' → BagA H' bg gl (n + 1) → Q kd.v H') : tOp (rIxL K) (tCall (PL (preNil vKINDS)) [] E' tNil) (tCall spBD [] E tl) σ H Q := by
  refine op_raw (?_ : tCall _ _ _ _ _ _ _)
  refine (?_ : tNil _ _ _)
  refine ⟨vKINDS, ⟨rfl, rfl⟩, fun t H1 n1 e1 h1 => ?_⟩
  refine bd_at (l := 11) (n := n) (ht H1 e1) (by decide) (by decide) hn (p.ex e1) fun H2 v b2 p2 v0 v1 => ?_
  obtain ⟨i, rfl⟩ : ∃ i : Nat, v = (i : Int) := ⟨v.toNat, by omega⟩
  have hi : i < vKINDS.length := by show i < 11; omega
  obtain ⟨kd, _, hkd⟩ := kd_at (List.getElem?_eq_getElem hi)
  have ht2 := b2 _ _ (p.ne n1).1 (p.ne n1).2 h1
  exact ⟨t, vKINDS, (i : Int), kd.v, rfl, rfl, sq_of ht2, atI_nat (by rw [List.getElem?_eq_getElem hi, hkd]), k H2 kd ((Bg.of e1).trans b2) p2⟩
theorem nF1 {r : Nat} (h : 1 ≤ r) : nF 1 ≤ nF r := Nat.le_trans (by decide : nF 1 ≤ 20) (nF_leaf h)
theorem bl_at {σ : L2.St} {H : Hp} {ta : TA} {bg gl na : Addr} {n r : Nat} {xs : List Str} {E : XK} {Q : VK} (h : EvA ta σ H [.ref bg, .ref na]) (r1 : 1 ≤ r) (hn : n + 6 ≤ 2 ^ 20) (hx : xs.length ≤ 100) (p : BP H bg gl na n xs)
    (k : ∀ q nd ys H', Bs bg gl na H H' → BP H' bg gl na (n + 6) ys → TreeAt H' q nd → nd.isE = true → nd.size = 1 → BOk nd xs ys r → Q (.ref q) H') : tCall spBLeaf [] E ta σ H Q :=
  h H (Ex.refl H) _ fun H1 e1 => ⟨bg, gl, na, n, xs, rfl, hn, hx, p.ex e1, fun q nd ys H' b b2 t e s o => k q nd ys H' ((Bs.of e1).trans b) b2 t e s ⟨o.wf, by omega, fun _ => by omega, o.pm, Nat.le_trans o.nb (nF1 r1), o.ls⟩⟩
theorem BOk.two {e f : Nd} {xs ys zs : List Str} {r : Nat} (h : BOk e xs ys ((r - 1) / 2)) (k : BOk f ys zs ((r - 1) / 2)) (r3 : 3 ≤ r) (he : e.isE = true) (hf : f.isE = true) (o : Bo) : BOk (.bin o e f) xs zs r := by
  have h1 := h.sE he
  have h2 := k.sE hf
  have h3 := nF_two r3
  refine ⟨⟨he, hf, h.wf, k.wf⟩, ?_, fun _ => ?_, h.pm2 k, ?_, h.ls, k.ls⟩
  · show 1 + e.size + f.size ≤ _
    omega
  · show 1 + e.size + f.size + 1 ≤ _
    omega
  · show e.nb + f.nb + 1 ≤ _
    have := h.nb
    have := k.nb
    omega
theorem BOk.three {c e f : Nd} {xs ys zs ws : List Str} {r : Nat} (h : BOk c xs ys ((r - 1) / 3)) (k : BOk e ys zs ((r - 1) / 3)) (m : BOk f zs ws ((r - 1) / 3)) (r6 : 6 ≤ r) (hc : c.isE = false) (he : e.isE = true) (hf : f.isE = true) : BOk (.ite c e f) xs ws r := by
  have h0 := h.sz
  have h1 := k.sE he
  have h2 := m.sE hf
  have h3 := nF_three (r := r) (by omega)
  refine ⟨⟨hc, he, hf, h.wf, k.wf, m.wf⟩, ?_, fun _ => ?_, ?_, ?_, h.ls, k.ls, m.ls⟩
  · show 1 + c.size + e.size + f.size ≤ _
    omega
  · show 1 + c.size + e.size + f.size + 1 ≤ _
    omega
  · show ((c.vars ++ (e.vars ++ f.vars)) ++ ws).Perm xs
    rw [List.append_assoc]
    exact (List.Perm.append_left _ (k.pm2 m)).trans h.pm
  · show max e.nb f.nb ≤ _
    have := k.nb
    have := m.nb
    omega
theorem BOk.not {c : Nd} {xs ys : List Str} {r : Nat} (h : BOk c xs ys (r - 1)) (r4 : 4 ≤ r) (hc : c.isE = false) : BOk (.nt c) xs ys r := by
  have h0 := h.sz
  refine ⟨⟨hc, h.wf⟩, ?_, (fun z => nomatch z), h.pm, Nat.zero_le _, h.ls⟩
  show 1 + c.size ≤ _
  omega
theorem BOk.both {c d : Nd} {xs ys zs : List Str} {r : Nat} (h : BOk c xs ys ((r - 1) / 2)) (k : BOk d ys zs ((r - 1) / 2)) (r7 : 7 ≤ r) (hc : c.isE = false) (hd : d.isE = false) (b : Bool) : BOk (.lg b c d) xs zs r := by
  have h0 := h.sz
  have h1 := k.sz
  refine ⟨⟨hc, hd, h.wf, k.wf⟩, ?_, (fun z => nomatch z), h.pm2 k, Nat.zero_le _, h.ls, k.ls⟩
  show 1 + c.size + d.size ≤ _
  omega
theorem BOk.comp {e f : Nd} {xs ys zs : List Str} {r a : Nat} (h : BOk e xs ys a) (k : BOk f ys zs a) (ha : a = 1 ∨ a ≤ (r - 1) / 2) (r1 : 1 ≤ r) (he : e.isE = true) (hf : f.isE = true) (b : Bool) : BOk (.cmp b e f) xs zs r := by
  have h1 := h.sE he
  have h2 := k.sE hf
  refine ⟨⟨he, hf, h.wf, k.wf⟩, ?_, (fun z => nomatch z), h.pm2 k, Nat.zero_le _, h.ls, k.ls⟩
  show 1 + e.size + f.size ≤ _
  omega
def rMax2_ : List V → Hp → VK → Prop := fun xs H Q => ∃ i j, xs = [.int i, .int j] ∧ Q (.int (if j > i then j else i)) H
/-- an item of a tuple that is written there -/
theorem ev_tupIx {K : PySem.W.Frag} {σ : L2.St} {H : Hp} {ta : TA} {tb : TE} {xs : List V} {i : Int} {v : V} (ha : EvU (tTup ta) σ H xs) (hb : Ev tb σ H (.int i)) (h : atI xs i = some v) : Ev (tOp (rIxT K) (tTup ta) tb) σ H v := fun H1 e Q q =>
  ha H1 e _ fun p H2 _ e2 h2 => hb H2 (e.trans e2) _ fun H3 e3 => ⟨p, xs, i, v, rfl, rfl, st_of (e3 _ _ h2), h, q H3 (e2.trans e3)⟩
end Cf

set_option exponentiation.threshold 20000
namespace Cf
open PySem PySem.Spec PyProof.Rows L2 Evl
/-- [e for x in a new tuple if t] -/
theorem el_lcUf {K : PySem.W.Frag} {te : TE} {tl : TE} {tt : TT} {σ : L2.St} {H : Hp} {j : Nat} {vs : List Nat} {xs : List V} (f : Nat → Bool) (v : Nat → V) (h : EvU tl σ H xs) (hz : xs.length ≤ 40000) (hw : ∀ x, wipe ((wipe σ vs).set j (some x)) vs = wipe σ vs)
    (ht : ∀ (i : Nat) (x : V) H1, Ex H H1 → xs[i]? = some x → EvT tt ((wipe σ vs).set j (some x)) H1 (f i))
    (he : ∀ (i : Nat) (x : V) H1, Ex H H1 → xs[i]? = some x → f i = true → Ev te ((wipe σ vs).set j (some x)) H1 (v i)) : EvL (tLc (iTup K tl) (gName j) tt te vs) σ H (given xs.length f v) := fun H0 e Q q => h H0 e _ fun a H1 n1 e1 h1 => ⟨a, rfl, ⟨_, st_of h1⟩, fun Dl hD =>
  lc_it walk_tup (Cw H1 f v Dl) ⟨hD, Ex.new hD, upd_same⟩ (fun i G _ p => ex_t p.2.1 (st_of h1)) (fun i x G G' hi p y => by
    obtain ⟨rfl, hc⟩ := y
    exact ⟨hw _, cw_turn p (by omega) (ht i x H1 (e.trans e1) hc) (fun hf => he i x H1 (e.trans e1) hc hf)⟩) (fun G p => q Dl G (fresh_back e1 p.1) (e1.trans p.2.1) p.2.2)⟩
/-- what stands behind a node's word: which of it are parts -/
def isRef : V → Bool
  | .ref _ => true
  | _ => false
theorem rest_refs {H : Hp} : ∀ {nd : Nd} {rest : List V}, Rest H nd rest → rest.length ≤ 3 ∧ (∀ x ∈ rest, (∃ q ys, x = .ref q ∧ H q = some (.tup ys)) ∨ (∃ i, x = .int i) ∨ ∃ s, x = .str s) ∧ ∃ qs, rest.filter isRef = qs.map V.ref ∧ PartsAt H qs nd.parts := by
  have tup : ∀ {q : Addr} {e : Nd}, TreeAt H q e → ∃ q2 ys, V.ref q = .ref q2 ∧ H q2 = some (.tup ys) := fun t => by
    obtain ⟨r, h⟩ := t.head
    exact ⟨_, _, rfl, h⟩
  intro nd rest h
  cases nd with
  | var x => cases h; exact ⟨by show 1 ≤ 3; decide, fun x hx => by rw [List.mem_singleton.mp hx]; exact .inr (.inr ⟨_, rfl⟩), [], rfl, trivial⟩
  | lit n s =>
    cases h
    refine ⟨by show 2 ≤ 3; decide, fun x hx => ?_, [], rfl, trivial⟩
    rcases List.mem_cons.mp hx with rfl | hx
    · exact .inr (.inl ⟨_, rfl⟩)
    · rw [List.mem_singleton.mp hx]; exact .inr (.inr ⟨_, rfl⟩)
  | cast k e =>
    obtain ⟨q, rfl, t⟩ := h
    refine ⟨by show 2 ≤ 3; decide, fun x hx => ?_, [q], rfl, t, trivial⟩
    rcases List.mem_cons.mp hx with rfl | hx
    · exact .inr (.inr ⟨_, rfl⟩)
    · rw [List.mem_singleton.mp hx]; exact .inl (tup t)
  | neg e =>
    obtain ⟨q, rfl, t⟩ := h
    exact ⟨by show 1 ≤ 3; decide, fun x hx => by rw [List.mem_singleton.mp hx]; exact .inl (tup t), [q], rfl, t, trivial⟩
  | nt e =>
    obtain ⟨q, rfl, t⟩ := h
    exact ⟨by show 1 ≤ 3; decide, fun x hx => by rw [List.mem_singleton.mp hx]; exact .inl (tup t), [q], rfl, t, trivial⟩
  | sh b e k =>
    obtain ⟨q, rfl, t⟩ := h
    refine ⟨by show 2 ≤ 3; decide, fun x hx => ?_, [q], rfl, t, trivial⟩
    rcases List.mem_cons.mp hx with rfl | hx
    · exact .inl (tup t)
    · rw [List.mem_singleton.mp hx]; exact .inr (.inl ⟨_, rfl⟩)
  | bin o e f =>
    obtain ⟨q, r, rfl, t, u⟩ := h
    refine ⟨by show 2 ≤ 3; decide, fun x hx => ?_, [q, r], rfl, t, u, trivial⟩
    rcases List.mem_cons.mp hx with rfl | hx
    · exact .inl (tup t)
    · rw [List.mem_singleton.mp hx]; exact .inl (tup u)
  | cmp o e f =>
    obtain ⟨q, r, rfl, t, u⟩ := h
    refine ⟨by show 2 ≤ 3; decide, fun x hx => ?_, [q, r], rfl, t, u, trivial⟩
    rcases List.mem_cons.mp hx with rfl | hx
    · exact .inl (tup t)
    · rw [List.mem_singleton.mp hx]; exact .inl (tup u)
  | lg o e f =>
    obtain ⟨q, r, rfl, t, u⟩ := h
    refine ⟨by show 2 ≤ 3; decide, fun x hx => ?_, [q, r], rfl, t, u, trivial⟩
    rcases List.mem_cons.mp hx with rfl | hx
    · exact .inl (tup t)
    · rw [List.mem_singleton.mp hx]; exact .inl (tup u)
  | ite c e f =>
    obtain ⟨o, q, r, rfl, s, t, u⟩ := h
    refine ⟨by show 3 ≤ 3; decide, fun x hx => ?_, [o, q, r], rfl, s, t, u, trivial⟩
    rcases List.mem_cons.mp hx with rfl | hx
    · exact .inl (tup s)
    · rcases List.mem_cons.mp hx with rfl | hx
      · exact .inl (tup t)
      · rw [List.mem_singleton.mp hx]; exact .inl (tup u)
theorem given_filter (p : V → Bool) (d : V) : ∀ xs : List V, given xs.length (fun i => p (xs.getD i d)) (fun i => xs.getD i d) = xs.filter p := by
  intro xs
  have key : ∀ n, n ≤ xs.length → given n (fun i => p (xs.getD i d)) (fun i => xs.getD i d) = (xs.take n).filter p := by
    intro n
    induction n with
    | zero => intro _; rfl
    | succ n ih =>
      intro hn
      have hx : xs[n]? = some xs[n] := List.getElem?_eq_getElem (by omega)
      have hg : xs.getD n d = xs[n] := by rw [List.getD_eq_getElem?_getD, hx]; rfl
      rw [List.take_add_one, hx]
      simp only [Option.toList_some, List.filter_append]
      cases hp : p xs[n] with
      | true =>
        rw [given_yes (by show p (xs.getD n d) = true; rw [hg]; exact hp), ih (by omega), hg]
        simp [List.filter_cons, hp]
      | false =>
        rw [given_no (by show p (xs.getD n d) = false; rw [hg]; exact hp), ih (by omega)]
        simp [List.filter_cons, hp]
  have := key xs.length (Nat.le_refl _)
  rw [List.take_length] at this
  exact this
/-- isinstance(x, tuple) -/
theorem et_isTup {K : PySem.W.Frag} {σ : L2.St} {H : Hp} {ta : TE} {x : V} (hx : (∃ q ys, x = .ref q ∧ H q = some (.tup ys)) ∨ (∃ i, x = .int i) ∨ ∃ s, x = .str s) (ha : Ev ta σ H x) : Ev (tCB (rIsi K) (tCons ta (tCons (tC (.ty "tuple")) tNil))) σ H (.bl (isRef x)) := by
  rcases hx with ⟨q, ys, rfl, h⟩ | ⟨i, rfl⟩ | ⟨s, rfl⟩
  · exact ev_cb (ea_cons ha (ea_cons ev_c ea_nil)) fun H1 e Q1 q1 => ⟨.ref q, .ty "tuple", .type "tuple", .type "tuple", true, rfl, .ty _, .base (.tup (e _ _ h)), kit_ty (by decide +kernel), q1 H1 (Ex.refl H1)⟩
  · exact ev_cb (ea_cons ha (ea_cons ev_c ea_nil)) fun H1 e Q1 q1 => ⟨.int i, .ty "tuple", .type "int", .type "tuple", false, rfl, .ty _, .base (.int i), kit_ty (by decide +kernel), q1 H1 (Ex.refl H1)⟩
  · exact ev_cb (ea_cons ha (ea_cons ev_c ea_nil)) fun H1 e Q1 q1 => ⟨.str s, .ty "tuple", .type "str", .type "tuple", false, rfl, .ty _, .base (.str s), kit_ty (by decide +kernel), q1 H1 (Ex.refl H1)⟩
/-- t[1:] -/
theorem eu_tail {K : PySem.W.Frag} {σ : L2.St} {H : Hp} {te : TE} {a : Addr} {x : V} {xs : List V} (h : Ev te σ H (.ref a)) (hs : SqT K H a (x :: xs)) : EvU (tSl (rSlT K) te (tPart (tC (.int 1))) tNoPart) σ H xs := fun H1 e Q q =>
  h H1 e _ fun H2 e2 => ⟨_, rfl, a, _, rfl, ex_t (e.trans e2) hs, (fun z => by
    have := z.1
    simp [HT.sIx] at this), fun p hp => by
    have hc : cutV (x :: xs) (some 1) none = xs := by
      have : cutV (x :: xs) (some 1) none = ((x :: xs).take (x :: xs).length).drop 1 := by simp [cutV, HT.sIx]
      rw [this, List.take_length]
      rfl
    rw [hc]
    exact q p _ (fresh_back e2 hp) (e2.trans (Ex.new hp)) upd_same⟩
end Cf

set_option exponentiation.threshold 20000
namespace Cf
open PySem PySem.Spec PyProof.Rows L2 Evl
theorem VarsAt.bg {H H' : Hp} {l bg gl : Addr} {n : Nat} {rows : List Row} (h : VarsAt H l rows) (b : BagA H bg gl n) (e : Bg bg gl H H') (n1 : l ≠ bg) (n2 : l ≠ gl) : VarsAt H' l rows := by
  obtain ⟨ps, a, k, c⟩ := h
  refine ⟨ps, e _ _ n1 n2 a, k, fun j w q => ?_⟩
  obtain ⟨p, p1, p2⟩ := c j w q
  exact ⟨p, p1, b.tk e _ _ p2⟩
def nm8 : List Str := ["x", "if", "add", "y", "lit", "var", "less", "most"]
theorem nm8_ok : nm8.Nodup ∧ ∀ x ∈ nm8, nameOk x = true := by decide +kernel
/-- rows that were drawn -/
structure BRows (rows : List Row) (many : Nat) (wide : Int) : Prop where
  nm : rows.map Row.name = nm8.take many
  low : ∀ w ∈ rows, -wide ≤ w.low ∧ w.low ≤ wide ∧ w.low ≤ w.high ∧ w.high ≤ w.low + 3
theorem BRows.len {rows : List Row} {many : Nat} {wide : Int} (h : BRows rows many wide) (hm : many ≤ 8) : rows.length = many := by
  have := congrArg List.length h.nm
  rw [List.length_map, List.length_take] at this
  have h8 : nm8.length = 8 := rfl
  omega
theorem BRows.fit {rows : List Row} {many : Nat} {wide : Int} (h : BRows rows many wide) (hm : many ≤ 8) (hw : wide < 2 ^ 19) : RowsFit rows := by
  refine ⟨by rw [h.len hm]; omega, by rw [h.nm]; exact List.Sublist.nodup (List.take_sublist _ _) nm8_ok.1, fun w hx => ?_⟩
  obtain ⟨a, b, c, d⟩ := h.low w hx
  exact ⟨c, by omega, by omega⟩
theorem BRows.name {rows : List Row} {many : Nat} {wide : Int} (h : BRows rows many wide) : ∀ w ∈ rows, nameOk w.name = true := fun w hw => nm8_ok.2 _ (List.mem_of_mem_take (h.nm ▸ List.mem_map_of_mem hw))
def spHold : Sp := fun vs H Q _ => ∃ bg gl n many wide, vs = [.ref bg, .int (many : Nat), .int wide] ∧ many ≤ 8 ∧ 0 ≤ wide ∧ wide < 2 ^ 19 ∧ n + 24 ≤ 2 ^ 20 ∧ BagA H bg gl n ∧
  ∀ l rows H', H l = none → Bg bg gl H H' → BagA H' bg gl (n + 24) → VarsAt H' l rows → BRows rows many wide → Q (.ref l) H'
/-- its literals, in order -/
def Nd.lits : Nd → List Nd
  | .var _ => [] | .lit n s => [.lit n s] | .cast _ e => e.lits | .neg e => e.lits | .bin _ e f => e.lits ++ f.lits | .sh _ e _ => e.lits | .ite c e f => c.lits ++ (e.lits ++ f.lits) | .cmp _ e f => e.lits ++ f.lits | .nt c => c.lits | .lg _ c d => c.lits ++ d.lits
theorem lits_parts : ∀ {nd : Nd}, nd.word ≠ "lit" → nd.lits = nd.parts.flatMap Nd.lits
  | .var _, _ => rfl
  | .lit _ _, h => absurd rfl h
  | .cast _ e, _ => by simp [Nd.lits, Nd.parts]
  | .neg e, _ => by simp [Nd.lits, Nd.parts]
  | .bin _ e f, _ => by simp [Nd.lits, Nd.parts]
  | .sh _ e _, _ => by simp [Nd.lits, Nd.parts]
  | .ite c e f, _ => by simp [Nd.lits, Nd.parts]
  | .cmp _ e f, _ => by simp [Nd.lits, Nd.parts]
  | .nt c, _ => by simp [Nd.lits, Nd.parts]
  | .lg _ c d, _ => by simp [Nd.lits, Nd.parts]
theorem lits_le : ∀ nd : Nd, nd.lits.length ≤ nd.size
  | .var _ => Nat.zero_le _
  | .lit _ _ => Nat.le_refl _
  | .cast _ e => by have := lits_le e; show e.lits.length ≤ 1 + e.size; omega
  | .neg e => by have := lits_le e; show e.lits.length ≤ 1 + e.size; omega
  | .bin _ e f => by have := lits_le e; have := lits_le f; show (e.lits ++ f.lits).length ≤ 1 + e.size + f.size; rw [List.length_append]; omega
  | .sh _ e _ => by have := lits_le e; show e.lits.length ≤ 1 + e.size; omega
  | .ite c e f => by have := lits_le c; have := lits_le e; have := lits_le f; show (c.lits ++ (e.lits ++ f.lits)).length ≤ 1 + c.size + e.size + f.size; rw [List.length_append, List.length_append]; omega
  | .cmp _ e f => by have := lits_le e; have := lits_le f; show (e.lits ++ f.lits).length ≤ 1 + e.size + f.size; rw [List.length_append]; omega
  | .nt c => by have := lits_le c; show c.lits.length ≤ 1 + c.size; omega
  | .lg _ c d => by have := lits_le c; have := lits_le d; show (c.lits ++ d.lits).length ≤ 1 + c.size + d.size; rw [List.length_append]; omega
theorem PartsAt.app {H : Hp} : ∀ {qs : List Addr} {es : List Nd} {rs : List Addr} {fs : List Nd}, PartsAt H qs es → PartsAt H rs fs → PartsAt H (qs ++ rs) (es ++ fs)
  | [], [], _, _, _, k => k
  | _ :: _, _ :: _, _, _, h, k => ⟨h.1, PartsAt.app h.2 k⟩
  | [], _ :: _, _, _, h, _ => h.elim
  | _ :: _, [], _, _, h, _ => h.elim
theorem PartsAt.len {H : Hp} : ∀ {qs : List Addr} {es : List Nd}, PartsAt H qs es → qs.length = es.length
  | [], [], _ => rfl
  | _ :: _, _ :: _, h => by rw [List.length_cons, List.length_cons, PartsAt.len h.2]
  | [], _ :: _, h => h.elim
  | _ :: _, [], h => h.elim
def spLits (d : Nat) : Sp := fun vs H Q _ => ∃ p nd, vs = [.ref p] ∧ TreeAt H p nd ∧ nd.size ≤ d ∧ nd.size ≤ 1000 ∧ ∀ l qs H', H l = none → Ex H H' → H' l = some (.lst (qs.map V.ref)) → PartsAt H' qs nd.lits → Q (.ref l) H'
theorem no_lits {vs : List V} {H : Hp} {Q : VK} {E : XK} (h : spLits 0 vs H Q E) : False := by
  obtain ⟨p, nd, _, _, h2, _⟩ := h
  have := size_sum nd
  omega
def preCnt (d : Nat) : List V → Hp → V → Prop := fun vs H v => ∃ p nd, vs = [.ref p] ∧ TreeAt H p nd ∧ nd.size ≤ d ∧ v = .int (nd.size : Nat)
theorem no_cnt {vs : List V} {H : Hp} {Q : VK} {E : XK} (h : PV (preCnt 0) vs H Q E) : False := by
  obtain ⟨v, ⟨p, nd, _, _, h2, _⟩, _⟩ := h
  have := size_sum nd
  omega
theorem spCnt {H : Hp} {p : Addr} {nd : Nd} {d : Nat} (hT : TreeAt H p nd) (hd : nd.size ≤ d) : SpV (PV (preCnt d)) [.ref p] H (.int (nd.size : Nat)) := PV.sp fun H1 e => ⟨p, nd, rfl, hT.ex e, hd, rfl⟩
theorem size_parts : ∀ nd : Nd, nd.size = 1 + (nd.parts.map Nd.size).sum
  | .var _ => rfl
  | .lit _ _ => rfl
  | .cast _ e => by simp [Nd.size, Nd.parts]
  | .neg e => by simp [Nd.size, Nd.parts]
  | .bin _ e f => by simp [Nd.size, Nd.parts]; omega
  | .sh _ e _ => by simp [Nd.size, Nd.parts]
  | .ite c e f => by simp [Nd.size, Nd.parts]; omega
  | .cmp _ e f => by simp [Nd.size, Nd.parts]; omega
  | .nt c => by simp [Nd.size, Nd.parts]
  | .lg _ c d => by simp [Nd.size, Nd.parts]; omega
/-- what is drawn for a turn -/
structure BNd (rows : List Row) (nd : Nd) (r : Nat) : Prop where
  wf : nd.wf
  isE : nd.isE = true
  sz : nd.size ≤ 24
  li : nd.lits.length ≤ 6
  vs : ∀ x ∈ nd.vars, x ∈ rows.map Row.name
  nn : nd.vars.Nodup
  nb : nd.nb ≤ nF r
  ls : nd.lsm
def spDrawn : Sp := fun vs H Q _ => ∃ bg gl hl n r rows, vs = [.ref bg, .ref hl, .int (r : Nat)] ∧ 1 ≤ r ∧ r ≤ 16 ∧ n + 2000 ≤ 2 ^ 20 ∧ BagA H bg gl n ∧ hl ≠ gl ∧ VarsAt H hl rows ∧ rows.length ≤ 8 ∧ (rows.map Row.name).Nodup ∧
  ∀ p nd H', Bg bg gl H H' → BagA H' bg gl (n + 2000) → TreeAt H' p nd → BNd rows nd r → Q (.ref p) H'
end Cf

set_option exponentiation.threshold 20000
namespace Cf
open PySem PySem.Spec PyProof.Rows L2 Evl
/-- [e for .. in xs] of a list that stands, any target -/
theorem el_lcG {K : PySem.W.Frag} {g : TG} {te : TE} {tl : TE} {σ : L2.St} {H : Hp} {vs : List Nat} {a : Addr} {xs : List V} (v : Nat → V) (h : Ev tl σ H (.ref a)) (hx : SqL K H a xs) (hz : xs.length ≤ 40000)
    (he : ∀ (i : Nat) (x : V) G, Ex H G → xs[i]? = some x → ∀ R : L2.St → Hp → Prop, (∀ τ, wipe τ vs = wipe σ vs → Ev te τ H (v i) → R τ G) → g x (wipe σ vs) G R) : EvL (tLc (iList K tl) g tYes te vs) σ H (given xs.length (fun _ => true) v) := fun H0 e Q q => h H0 e _ fun H1 e1 => ⟨a, rfl, ⟨_, ex_l (e.trans e1) hx⟩, fun Dl hD =>
  lc_it walk_list (Cw H1 (fun _ => true) v Dl) ⟨hD, Ex.new hD, upd_same⟩ (fun i G _ p => ex_l ((e.trans e1).trans p.2.1) hx) (fun i x G G' hi p y => by
    obtain ⟨rfl, hc⟩ := y
    exact he i x _ ((e.trans e1).trans p.2.1) hc _ fun τ hw hv => ⟨hw, cw_turn p (by omega) (fun H3 e3 Q q => q H3 (Ex.refl H3)) (fun _ H3 e3 => hv H3 ((e.trans e1).trans e3))⟩) (fun G p => q Dl G (fresh_back e1 p.1) (e1.trans p.2.1) p.2.2)⟩
/-- [name for name, sort, begin, end in holders] -/
theorem el_names {K : PySem.W.Frag} {tl : TE} {σ : L2.St} {H : Hp} {l : Addr} {rows : List Row} {a b c d : Nat} {vs : List Nat} (h : Ev tl σ H (.ref l)) (hV : VarsAt H l rows) (hz : rows.length ≤ 1000)
    (hw : ∀ w x y z, wipe (((((wipe σ vs).set a (some w)).set b (some x)).set c (some y)).set d (some z)) vs = wipe σ vs) (hg : ∀ w x y z, ((((((wipe σ vs).set a (some w)).set b (some x)).set c (some y)).set d (some z)))[a]? = some (some w)) :
    EvL (tLc (iList K tl) (gTup K 4 (gCons (gName a) (gCons (gName b) (gCons (gName c) (gCons (gName d) gNil))))) tYes (tVar a) vs) σ H ((rows.map Row.name).map V.str) := by
  obtain ⟨ps, hl, hlen, hrow⟩ := id hV
  have e : (rows.map Row.name).map V.str = given (ps.map V.ref).length (fun _ => true) (fun i => V.str ((rows.getD i row0).name)) := by
    rw [List.length_map, hlen, given_all rows (fun w => V.str w.name) row0, List.map_map]
    rfl
  rw [e]
  refine el_lcG (K := K) (xs := ps.map V.ref) _ h (sq_of hl) (by rw [List.length_map, hlen]; omega) fun i x G eG hx R k => ?_
  rw [List.getElem?_map] at hx
  obtain ⟨q, hq, rfl⟩ := Option.map_eq_some_iff.mp hx
  have hi : i < rows.length := by
    have := (List.getElem?_eq_some_iff.mp hq).1
    rw [hlen] at this
    exact this
  obtain ⟨p2, w1, w2⟩ := hrow i rows[i] (List.getElem?_eq_getElem hi)
  rw [hq] at w1
  cases w1
  have hgd : rows.getD i row0 = rows[i] := by rw [List.getD_eq_getElem?_getD, List.getElem?_eq_getElem hi]; rfl
  refine ⟨q, _, rfl, st_of (eG _ _ w2), rfl, _, _, rfl, _, _, rfl, _, _, rfl, _, _, rfl, rfl, ?_⟩
  refine k _ (hw _ _ _ _) ?_
  rw [hgd]
  exact ev_var (hg _ _ _ _)
end Cf

set_option exponentiation.threshold 20000
namespace Cf
open PySem PySem.Spec PyProof.Rows L2 Evl
def prePow : List V → Hp → V → Prop := fun vs H v => ∃ k : Int, vs = [.int k] ∧ 0 ≤ k ∧ k < 1000 ∧ v = .int (2 ^ k.toNat)
theorem spPow {H : Hp} {k : Int} (h0 : 0 ≤ k) (h1 : k < 1000) : SpV (PV prePow) [.int k] H (.int (2 ^ k.toNat)) := PV.sp fun H1 e => ⟨k, rfl, h0, h1, rfl⟩
/-- a number less a number or a truth -/
def rSubM : R2 := fun x y H Q => ∃ i, x = .int i ∧ ((∃ j, y = .int j ∧ Q (.int (i - j)) H) ∨ ∃ b, y = .bl b ∧ Q (.int (i - b01 b)) H)
theorem op_subM {X : Cx} : OpR X (binaryOp .Sub) rSubM := by
  intro pins s σ H x y v u Q I rx ry h
  obtain ⟨i, rfl, h⟩ := h
  obtain ⟨t, rfl⟩ := rx
  rcases h with ⟨j, rfl, q⟩ | ⟨b, rfl, q⟩
  · obtain ⟨t2, rfl⟩ := ry
    exact sub_int ⟨.int (i - j), H, I.tok _, ⟨_, rfl⟩, q⟩
  · cases ry
    exact PySem.IntBool.sub_int_bool ⟨.int (i - b01 b), H, I.tok _, ⟨_, rfl⟩, q⟩
theorem rv_subI {i j : Int} {H : Hp} : RV rSubM (.int i) (.int j) H (.int (i - j)) := fun H1 _ Q q => ⟨i, rfl, .inl ⟨j, rfl, q H1 (Ex.refl H1)⟩⟩
theorem rv_subB {i : Int} {b : Bool} {H : Hp} : RV rSubM (.int i) (.bl b) H (.int (i - b01 b)) := fun H1 _ Q q => ⟨i, rfl, .inr ⟨b, rfl, q H1 (Ex.refl H1)⟩⟩
def rInt1_ : List V → Hp → VK → Prop := fun xs H Q => (∃ i, xs = [.int i] ∧ Q (.int i) H) ∨ ∃ k, xs = [.bl k] ∧ Q (.int (if k then 1 else 0)) H
theorem ev_intB {σ : L2.St} {H : Hp} {te : TE} {b : Bool} (h : Ev te σ H (.bl b)) : Ev (tCB rInt1_ (tCons te tNil)) σ H (.int ((if b = true then 1 else 0 : Nat) : Int)) := ev_cb (ea_cons h ea_nil) fun H1 e Q q => .inr ⟨b, rfl, by
  cases b <;> exact q H1 (Ex.refl H1)⟩
/-- (x, y)[int(b)] -/
theorem ev_pickB {K : PySem.W.Frag} {σ : L2.St} {H : Hp} {ta tb tc : TE} {x y v : V} {b : Bool} (ha : Ev ta σ H x) (hb : Ev tb σ H y) (hc : Ev tc σ H (.bl b)) (hv : (if b = true then y else x) = v) : Ev (tOp (rIxT K) (tTup (tCons ta (tCons tb tNil))) (tCB rInt1_ (tCons tc tNil))) σ H v :=
  ev_tupIx (eu_tup (ea_cons ha (ea_cons hb ea_nil)) (by show 2 ≤ _; decide)) (ev_intB hc) (by
    cases b with
    | true => exact atI_nat (j := 1) (by rw [← hv]; rfl)
    | false => exact atI_nat (j := 0) (by rw [← hv]; rfl))
/-- {k1: e1, k2: e2, k3: e3}[k] -/
theorem ev_dget3 {σ : L2.St} {H : Hp} {t1 t2 t3 tk : TE} {k1 k2 k3 k : Str} {v1 v2 v3 v : V} (h1 : Ev t1 σ H v1) (h2 : Ev t2 σ H v2) (h3 : Ev t3 σ H v3) (hk : Ev tk σ H (.str k)) (hm : mergeK [] [((.inr k1 : Key), v1), (.inr k2, v2), (.inr k3, v3)] = [((.inr k1 : Key), v1), (.inr k2, v2), (.inr k3, v3)])
    (hv : valV [((.inr k1 : Key), v1), (.inr k2, v2), (.inr k3, v3)] (.inr k) = some v) : Ev (tDGet (tDisp [(tC (.str k1), t1), (tC (.str k2), t2), (tC (.str k3), t3)]) tk) σ H v := fun H1 e Q q p np => by
  have e1 : Ex H1 (upd H1 p (.dK [])) := Ex.new np
  refine h1 (upd H1 p (.dK [])) (e.trans e1) _ fun H2 e2 => h2 H2 ((e.trans e1).trans e2) _ fun H3 e3 => h3 H3 (((e.trans e1).trans e2).trans e3) _ fun H4 e4 => ?_
  have e24 := e2.trans (e3.trans e4)
  refine ⟨e24 _ _ upd_same, [(.inr k1, v1), (.inr k2, v2), (.inr k3, v3)], rfl, (by show 3 ≤ 15; decide), ?_⟩
  rw [hm]
  have e5 : Ex H1 (upd H4 p (.dK [((.inr k1 : Key), v1), (.inr k2, v2), (.inr k3, v3)])) := fun x o hx => by
    rw [upd_ne (fun z => by rw [z, np] at hx; exact nomatch hx)]
    exact e24 _ _ (e1 _ _ hx)
  have hp5 : (upd H4 p (.dK [((.inr k1 : Key), v1), (.inr k2, v2), (.inr k3, v3)])) p = some (.dK [((.inr k1 : Key), v1), (.inr k2, v2), (.inr k3, v3)]) := upd_same
  generalize upd H4 p (.dK [((.inr k1 : Key), v1), (.inr k2, v2), (.inr k3, v3)]) = H5 at e5 hp5 ⊢
  refine hk H5 (e.trans e5) _ fun H6 e6 => ⟨p, v, rfl, ?_, q H6 (e5.trans e6)⟩
  have gg := DGet.k (k := .inr k) (e6 _ _ hp5)
  rw [hv] at gg
  exact gg
theorem ev_notTI {K : PySem.W.Frag} {σ : L2.St} {H : Hp} {ta : TE} {i : Int} (h : Ev ta σ H (.int i)) : Ev (tNotT K ta) σ H (.bl (!(i != 0))) := fun H1 e Q q => h H1 e _ fun H2 e2 => ⟨_, rfl, q H2 e2⟩
theorem ev_notTB {K : PySem.W.Frag} {σ : L2.St} {H : Hp} {ta : TE} {b : Bool} (h : Ev ta σ H (.bl b)) : Ev (tNotT K ta) σ H (.bl (!b)) := fun H1 e Q q => h H1 e _ fun H2 e2 => ⟨b, rfl, q H2 e2⟩
end Cf

set_option exponentiation.threshold 20000
namespace Cf
open PySem PySem.Spec PyProof.Rows L2 Evl
/-! ## all values of the ranges -/
def rngI (w : Row) : List Int := (List.range (w.high + 1 - w.low).toNat).map fun (i : Nat) => w.low + (i : Int)
theorem mem_rngI {w : Row} {a : Int} : a ∈ rngI w ↔ w.low ≤ a ∧ a ≤ w.high := by
  unfold rngI
  rw [List.mem_map]
  constructor
  · rintro ⟨i, hi, rfl⟩
    rw [List.mem_range] at hi
    omega
  · intro h
    exact ⟨(a - w.low).toNat, by rw [List.mem_range]; omega, by omega⟩
def addV (Ls : List (List Gv)) (w : Row) : List (List Gv) := Ls.flatMap fun L => (rngI w).map fun a => L ++ [(w, a)]
def allV (rows : List Row) : List (List Gv) := rows.foldl addV [[]]
theorem mem_fold : ∀ (rows : List Row) (Ls : List (List Gv)) (L : List Gv), L ∈ rows.foldl addV Ls ↔ ∃ L0 ∈ Ls, ∃ M : List Gv, L = L0 ++ M ∧ M.map Prod.fst = rows ∧ ∀ y ∈ M, y.1.low ≤ y.2 ∧ y.2 ≤ y.1.high
  | [], Ls, L => by
    constructor
    · exact fun h => ⟨L, h, [], (List.append_nil L).symm, rfl, fun y hy => nomatch hy⟩
    · rintro ⟨L0, h0, M, rfl, hm, _⟩
      rw [List.map_eq_nil_iff.mp hm, List.append_nil]
      exact h0
  | w :: rows, Ls, L => by
    show L ∈ rows.foldl addV (addV Ls w) ↔ _
    rw [mem_fold rows (addV Ls w) L]
    constructor
    · rintro ⟨L0, h0, M, rfl, hm, hr⟩
      obtain ⟨L1, h1, h2⟩ := List.mem_flatMap.mp h0
      obtain ⟨a, ha, rfl⟩ := List.mem_map.mp h2
      refine ⟨L1, h1, (w, a) :: M, by rw [List.append_assoc]; rfl, by rw [List.map_cons, hm], fun y hy => ?_⟩
      rcases List.mem_cons.mp hy with rfl | hy
      · exact mem_rngI.mp ha
      · exact hr y hy
    · rintro ⟨L0, h0, M, rfl, hm, hr⟩
      match M, hm, hr with
      | (v, a) :: M, hm, hr =>
        rw [List.map_cons, List.cons.injEq] at hm
        obtain ⟨e1, hm2⟩ := hm
        have e1 : v = w := e1
        subst e1
        exact ⟨L0 ++ [(v, a)], List.mem_flatMap.mpr ⟨L0, h0, List.mem_map.mpr ⟨a, mem_rngI.mpr (hr _ (.head _)), rfl⟩⟩, M, by rw [List.append_assoc]; rfl, hm2, fun y hy => hr y (.tail _ hy)⟩
theorem mem_allV {rows : List Row} {L : List Gv} : L ∈ allV rows ↔ L.map Prod.fst = rows ∧ ∀ y ∈ L, y.1.low ≤ y.2 ∧ y.2 ≤ y.1.high := by
  unfold allV
  rw [mem_fold]
  constructor
  · rintro ⟨L0, h0, M, rfl, hm, hr⟩
    rw [List.mem_singleton.mp h0, List.nil_append]
    exact ⟨hm, hr⟩
  · exact fun h => ⟨[], .head _, L, rfl, h.1, h.2⟩
theorem fold_len : ∀ (rows : List Row) (Ls : List (List Gv)), (∀ w ∈ rows, w.high ≤ w.low + 3) → (rows.foldl addV Ls).length ≤ Ls.length * 4 ^ rows.length
  | [], Ls, _ => by simp
  | w :: rows, Ls, h => by
    show (rows.foldl addV (addV Ls w)).length ≤ _
    have h1 := fold_len rows (addV Ls w) fun v hv => h v (.tail _ hv)
    have h2 : (addV Ls w).length ≤ Ls.length * 4 := by
      have hw := h w (.head _)
      have hr : (rngI w).length ≤ 4 := by unfold rngI; rw [List.length_map, List.length_range]; omega
      clear h h1
      induction Ls with
      | nil => exact Nat.zero_le _
      | cons L Ls ih =>
        show (((rngI w).map fun a => L ++ [(w, a)]) ++ addV Ls w).length ≤ _
        rw [List.length_append, List.length_map, List.length_cons]
        omega
    rw [List.length_cons, Nat.pow_succ]
    have := Nat.mul_le_mul_right (4 ^ rows.length) h2
    rw [Nat.mul_assoc, Nat.mul_comm 4] at this
    exact Nat.le_trans h1 this
theorem allV_len {rows : List Row} (h : ∀ w ∈ rows, w.high ≤ w.low + 3) (h4 : rows.length ≤ 4) : (allV rows).length ≤ 256 := by
  have h1 := fold_len rows [[]] h
  have h2 : 4 ^ rows.length ≤ 4 ^ 4 := Nat.pow_le_pow_right (by decide) h4
  show (rows.foldl addV [[]]).length ≤ 256
  simp only [List.length_cons, List.length_nil] at h1
  omega
theorem allV_take {rows : List Row} {i : Nat} {w : Row} (h : rows[i]? = some w) : allV (rows.take (i + 1)) = addV (allV (rows.take i)) w := by
  unfold allV
  rw [List.take_add_one, h]
  simp only [Option.toList_some, List.foldl_append, List.foldl_cons, List.foldl_nil]
theorem allV_ok {rows : List Row} {L : List Gv} (hn : (rows.map Row.name).Nodup) (h : L ∈ allV rows) : GvOk L rows := by
  obtain ⟨a, b⟩ := mem_allV.mp h
  exact ⟨by rw [show L.map (·.1) = rows from a], hn, b⟩
/-- within the ranges, and all that is -/
theorem allV_bx {rows : List Row} {L : List Gv} (hn : (rows.map Row.name).Nodup) (hf : ∀ w ∈ rows, w.Fit) (h : L ∈ allV rows) : Bx rows (gvOf L) := by
  have o := allV_ok hn h
  refine ⟨fun w hw => (o.vals w hw).2, fun x => ?_⟩
  unfold gvOf
  cases hq : L.find? (fun y => decide (y.1.name = x)) with
  | none => show (0 : Int).natAbs < 2 ^ 140; decide
  | some y =>
    have hy := List.mem_of_find?_eq_some hq
    have h1 := o.le y hy
    have hw : y.1 ∈ rows := by rw [← (mem_allV.mp h).1]; exact List.mem_map_of_mem hy
    have h2 := hf _ hw
    obtain ⟨h3, h4, h5⟩ := h2
    show y.2.natAbs < _
    omega
theorem allV_all {rows : List Row} {g : Str → Int} (hn : (rows.map Row.name).Nodup) (h : Bx rows g) : ∃ L ∈ allV rows, ∀ x ∈ rows.map Row.name, gvOf L x = g x := by
  refine ⟨rows.map fun w => (w, g w.name), mem_allV.mpr ⟨by rw [List.map_map]; exact (List.map_congr_left fun _ _ => rfl).trans (List.map_id rows), fun y hy => ?_⟩, fun x hx => ?_⟩
  · obtain ⟨w, hw, rfl⟩ := List.mem_map.mp hy
    exact h.1 w hw
  · obtain ⟨w, hw, rfl⟩ := List.mem_map.mp hx
    have hn2 : ((rows.map fun w => ((w, g w.name) : Gv)).map (·.1.name)).Nodup := by rw [List.map_map]; exact hn
    have := gv_at hn2 (List.mem_map_of_mem (f := fun w => ((w, g w.name) : Gv)) hw)
    unfold gvOf
    rw [this]
    rfl
/-- a list of dicts of values, each of them an X -/
def DDAt (X : Addr → Prop) (H : Hp) (l : Addr) (Ls : List (List Gv)) : Prop := ∃ ps : List Addr, H l = some (.lst (ps.map V.ref)) ∧ ps.length = Ls.length ∧ ∀ (j : Nat) (L : List Gv), Ls[j]? = some L → ∃ p, ps[j]? = some p ∧ H p = some (.dK (gvL L)) ∧ X p
theorem DDAt.ex {X : Addr → Prop} {H H' : Hp} {l : Addr} {Ls : List (List Gv)} (h : DDAt X H l Ls) (e : Ex H H') : DDAt X H' l Ls := by
  obtain ⟨ps, a, b, c⟩ := h
  refine ⟨ps, e _ _ a, b, fun j s q => ?_⟩
  obtain ⟨p, p1, p2, p3⟩ := c j s q
  exact ⟨p, p1, e _ _ p2, p3⟩
theorem DDAt.bg {X : Addr → Prop} {H H' : Hp} {l bg gl : Addr} {Ls : List (List Gv)} (h : DDAt X H l Ls) (xl : X l) (hx : ∀ p, X p → p ≠ bg ∧ p ≠ gl) (e : Bg bg gl H H') : DDAt X H' l Ls := by
  obtain ⟨ps, a, b, c⟩ := h
  refine ⟨ps, e _ _ (hx l xl).1 (hx l xl).2 a, b, fun j s q => ?_⟩
  obtain ⟨p, p1, p2, p3⟩ := c j s q
  exact ⟨p, p1, e _ _ (hx p p3).1 (hx p p3).2 p2, p3⟩
theorem DDAt.list {X : Addr → Prop} {H : Hp} {l : Addr} {Ls : List (List Gv)} (h : DDAt X H l Ls) : ∃ acc, H l = some (.lst acc) ∧ acc.length = Ls.length := by
  obtain ⟨ps, a, b, _⟩ := h
  exact ⟨_, a, by rw [List.length_map]; exact b⟩
theorem DDAt.add {X : Addr → Prop} {H : Hp} {l q : Addr} {Ls : List (List Gv)} {L : List Gv} (h : DDAt X H l Ls) (hq : H q = some (.dK (gvL L))) (xq : X q) {acc : List V} (ha : H l = some (.lst acc)) : acc.length = Ls.length ∧ DDAt X (upd H l (.lst (acc ++ [.ref q]))) l (Ls ++ [L]) := by
  obtain ⟨ps, a, b, k⟩ := h
  rw [ha] at a
  cases a
  have nt : ∀ {p : Addr} {kvs : List (Key × V)}, H p = some (.dK kvs) → p ≠ l := fun h z => by rw [z, ha] at h; exact nomatch h
  refine ⟨by rw [List.length_map]; exact b, ps ++ [q], by rw [upd_same, List.map_append]; rfl, by rw [List.length_append, List.length_append, b]; rfl, fun j x hj => ?_⟩
  by_cases hlt : j < Ls.length
  · rw [List.getElem?_append_left hlt] at hj
    obtain ⟨p, p1, p2, p3⟩ := k j x hj
    exact ⟨p, by rw [List.getElem?_append_left (by omega)]; exact p1, by rw [upd_ne (nt p2)]; exact p2, p3⟩
  · rw [List.getElem?_append_right (by omega)] at hj
    have hz : j - Ls.length = 0 := by
      have := (List.getElem?_eq_some_iff.mp hj).1
      simp at this
      omega
    rw [hz] at hj
    have hj : L = x := Option.some.inj hj
    subst hj
    exact ⟨q, by rw [List.getElem?_append_right (by omega), b, hz]; rfl, by rw [upd_ne (nt hq)]; exact hq, xq⟩
def rDict_ : List V → Hp → VK → Prop := fun xs H Q => ∃ (a : Addr) (kvs : List (Key × V)), xs = [.ref a] ∧ Rd H a (.dK kvs) ∧ ∀ p, H p = none → Q (.ref p) (upd H p (.dK kvs))
def spAllV : Sp := fun vs H Q _ => ∃ l rows, vs = [.ref l] ∧ VarsAt H l rows ∧ rows.length ≤ 4 ∧ (rows.map Row.name).Nodup ∧ (∀ w ∈ rows, w.low ≤ w.high ∧ w.high ≤ w.low + 3 ∧ -1000 ≤ w.low ∧ w.low ≤ 1000) ∧ ∀ a H', H a = none → Ex H H' → DDAt (fun p => H p = none) H' a (allV rows) → Q (.ref a) H'
theorem q_forLb {K : PySem.W.Frag} {σ : L2.St} {H : Hp} {te : TE} {g : TG} {tb tz : TS} {D : Ends} {a : Addr} {xs : List V} (h : Ev te σ H (.ref a)) (hx : SqL K H a xs) (Pv : Nat → L2.St → Hp → Prop) (h0 : ∀ H1, Ex H H1 → Pv 0 σ H1) (hk : ∀ i σ' G, i ≤ xs.length → Pv i σ' G → SqL K G a xs)
    (hs : ∀ i x σ' G, xs[i]? = some x → Pv i σ' G → g x σ' G fun σ2 H2 => tb { D with nx := Pv (i + 1), ct := Pv (i + 1), bk := tz D } σ2 H2) (hd : ∀ σ' G, Pv xs.length σ' G → tz D σ' G) : tSeq (tFor (iList K te) g tb) tz D σ H :=
  h H (Ex.refl H) _ fun H1 e1 => ⟨a, rfl, ⟨xs, ex_l e1 hx⟩, for_list (xs := xs) Pv (h0 H1 e1) hk hs hd⟩
end Cf

set_option exponentiation.threshold 20000
namespace Cf
open PySem PySem.Spec PyProof.Rows L2 Evl
/-! ## the law of k64 -/
def numsV (rows : List Row) (nd : Nd) : List Int := (allV rows).map fun L => nd.nm (gvOf L)
theorem numsV_ne {rows : List Row} (hF : RowsFit rows) {nd : Nd} : numsV rows nd ≠ [] := by
  obtain ⟨g, bg⟩ := low_bx hF
  obtain ⟨L, hL, _⟩ := allV_all hF.nd bg
  intro z
  rw [List.map_eq_nil_iff.mp z] at hL
  exact nomatch hL
/-- the range by all values -/
theorem sp_all {rows : List Row} (hF : RowsFit rows) {nd : Nd} (hv : ∀ x ∈ nd.vars, x ∈ rows.map Row.name) : ∃ lo hi, IsSp rows nd lo hi ∧ lo ∈ numsV rows nd ∧ (∀ y ∈ numsV rows nd, lo ≤ y) ∧ hi ∈ numsV rows nd ∧ ∀ y ∈ numsV rows nd, y ≤ hi := by
  obtain ⟨lo, l1, l2⟩ := least_of (numsV_ne hF (nd := nd))
  obtain ⟨hi, m1, m2⟩ := most_of (numsV_ne hF (nd := nd))
  refine ⟨lo, hi, ⟨?_, ?_, fun g bg => ?_⟩, l1, l2, m1, m2⟩
  · obtain ⟨L, hL, e⟩ := List.mem_map.mp l1
    exact ⟨_, allV_bx hF.nd hF.fit hL, e⟩
  · obtain ⟨L, hL, e⟩ := List.mem_map.mp m1
    exact ⟨_, allV_bx hF.nd hF.fit hL, e⟩
  · obtain ⟨L, hL, e⟩ := allV_all hF.nd bg
    have h : nd.nm (gvOf L) = nd.nm g := nm_agree fun x hx => e x (hv x hx)
    have hm : nd.nm g ∈ numsV rows nd := h ▸ List.mem_map_of_mem hL
    exact ⟨l2 _ hm, m2 _ hm⟩
theorem numsV_01 {rows : List Row} {nd : Nd} (h : nd.isE = false) : ∀ n ∈ numsV rows nd, n = 0 ∨ n = 1 := fun n hn => by
  obtain ⟨L, _, rfl⟩ := List.mem_map.mp hn
  exact nm_01 h
def truV (rows : List Row) (nd : Nd) : List Bool := (allV rows).map fun L => nd.tru (gvOf L)
theorem tru_any {rows : List Row} {nd : Nd} (hE : nd.isE = false) {lo hi : Int} (l1 : lo ∈ numsV rows nd) (l2 : ∀ y ∈ numsV rows nd, lo ≤ y) (m1 : hi ∈ numsV rows nd) (m2 : ∀ y ∈ numsV rows nd, y ≤ hi) : (truV rows nd).any id = decide (hi = 1) ∧ (truV rows nd).any not = !decide (lo = 1) := by
  have t : ∀ L ∈ allV rows, (nd.tru (gvOf L) = true ↔ nd.nm (gvOf L) = 1) := fun L _ => by
    rw [nm_tru hE]
    exact decide_eq_true_iff
  have z1 := numsV_01 hE lo l1
  have z2 := numsV_01 hE hi m1
  constructor
  · by_cases h : hi = 1
    · rw [decide_eq_true h, List.any_eq_true]
      obtain ⟨L, hL, e⟩ := List.mem_map.mp m1
      exact ⟨_, List.mem_map_of_mem hL, (t L hL).mpr (by omega)⟩
    · rw [decide_eq_false h, List.any_eq_false]
      intro b hb
      obtain ⟨L, hL, rfl⟩ := List.mem_map.mp hb
      have := m2 _ (List.mem_map_of_mem (f := fun L => nd.nm (gvOf L)) hL)
      intro z
      have := (t L hL).mp z
      omega
  · by_cases h : lo = 1
    · rw [decide_eq_true h]
      show _ = false
      rw [List.any_eq_false]
      intro b hb
      obtain ⟨L, hL, rfl⟩ := List.mem_map.mp hb
      have h1 := l2 _ (List.mem_map_of_mem (f := fun L => nd.nm (gvOf L)) hL)
      have h2 := nm_01 (g := gvOf L) hE
      rw [(t L hL).mpr (by omega)]
      decide
    · rw [decide_eq_false h]
      show _ = true
      rw [List.any_eq_true]
      obtain ⟨L, hL, e⟩ := List.mem_map.mp l1
      refine ⟨_, List.mem_map_of_mem hL, ?_⟩
      cases hc : nd.tru (gvOf L) with
      | false => rfl
      | true => exact absurd ((t L hL).mp hc) (by omega)
/-- [_law_true(node, values) for values in every] -/
theorem el_true {X : Addr → Prop} {K : PySem.W.Frag} {tl t0 : TE} {σ : L2.St} {H : Hp} {el p : Addr} {rows : List Row} {nd : Nd} {j d : Nat} {vs : List Nat} {E : XK} (hl : Ev tl σ H (.ref el)) (hD : DDAt X H el (allV rows)) (hF : RowsFit rows) (hz : (allV rows).length ≤ 256) (hT : TreeAt H p nd) (hI : NdIn rows nd) (hd : nd.size ≤ d)
    (hw : ∀ x, wipe ((wipe σ vs).set j (some x)) vs = wipe σ vs) (h0 : ∀ x G, Ex H G → Ev t0 ((wipe σ vs).set j (some x)) G (.ref p)) (hj : ∀ x, ((wipe σ vs).set j (some x))[j]? = some (some x)) :
    EvL (tLc (iList K tl) (gName j) tYes (tCall (PV (preLE K d)) [] E (tCons t0 (tCons (tVar j) tNil))) vs) σ H ((allV rows).map fun L => exV (gvOf L) nd) := by
  obtain ⟨ps, h1, h2, h3⟩ := id hD
  have e : ((allV rows).map fun L => exV (gvOf L) nd) = given (ps.map V.ref).length (fun _ => true) (fun i => exV (gvOf ((allV rows).getD i [])) nd) := by
    rw [List.length_map, h2, given_all (allV rows) (fun L => exV (gvOf L) nd) []]
  rw [e]
  refine el_lcLA (K := K) (xs := ps.map V.ref) _ hl (sq_of h1) (by rw [List.length_map, h2]; omega) hw fun i x G eG hx => ?_
  rw [List.getElem?_map] at hx
  obtain ⟨q, hq, rfl⟩ := Option.map_eq_some_iff.mp hx
  have hi : i < (allV rows).length := by rw [← h2]; exact (List.getElem?_eq_some_iff.mp hq).1
  obtain ⟨p2, w1, w2, _⟩ := h3 i _ (List.getElem?_eq_getElem hi)
  rw [hq] at w1
  cases w1
  have hgd : (allV rows).getD i [] = (allV rows)[i] := by rw [List.getD_eq_getElem?_getD, List.getElem?_eq_getElem hi]; rfl
  rw [hgd]
  have hL := List.getElem_mem hi
  have ok := allV_ok hF.nd hL
  have bx := allV_bx hF.nd hF.fit hL
  refine ev_call (ea_cons (h0 _ _ eG) (ea_cons (ev_var (hj _)) ea_nil)) (spLE (hT.ex eG) hI.wf hd hI.sz (eG _ _ w2) (fun x hx => ?_) bx.2)
  obtain ⟨w, hw, hwn⟩ := List.mem_map.mp (hI.vs x hx)
  have := (ok.vals w hw).1
  rw [hwn] at this
  exact this
theorem made_E {rows : List Row} {nd : Nd} (h : nd.isE = true) : ((allV rows).map fun L => exV (gvOf L) nd) = (numsV rows nd).map (kV true) := by
  unfold numsV
  rw [List.map_map]
  congr 1
  funext L
  rw [exV_kV, h]
  rfl
theorem made_C {rows : List Row} {nd : Nd} (h : nd.isE = false) : ((allV rows).map fun L => exV (gvOf L) nd) = (truV rows nd).map V.bl := by
  unfold truV
  rw [List.map_map]
  congr 1
  funext L
  exact exV_C h
/-- if f(..) != (a, b): return False -- where they are the same -/
theorem s_neB {K : PySem.W.Frag} {σ : L2.St} {H : Hp} {i : Nat} {u : TS} {tt : TE} {D : Ends} {l p : Addr} {rows : List Row} {nd : Nd} {lo hi : Int} {E : XK} (s0 : σ[3]? = some (some (.ref l))) (s1 : σ[i]? = some (some (.ref p))) (hV : VarsAt H l rows) (hF : RowsFit rows) (hnm : ∀ w ∈ rows, nameOk w.name = true) (hT : TreeAt H p nd) (hI : NdIn rows nd) (hE : nd.isE = true)
    (hsp : IsSp rows nd lo hi) (ht : EvU tt σ H [.int lo, .int hi]) (k : ∀ H1, Ex H H1 → D.nx σ H1) : tIfS (tTest (tOp (rNeD K) (tCall (spBounds K) [] E (tCons (tVar 3) (tCons (tVar i) tNil))) tt)) u tNext D σ H := by
  refine if_raw (test_raw (op_raw (?_ : tCall _ _ _ _ _ _ _)))
  refine ea_at (ev_var s0) fun H1 e1 => ?_
  refine ea_at (ev_var s1) fun H2 e2 => ?_
  have e12 := e1.trans e2
  refine ⟨l, p, rows, nd, rfl, hV.ex e12, hF, hnm, hT.ex e12, hI, fun q lo2 hi2 H3 e3 hq hs => ?_⟩
  obtain ⟨rfl, rfl⟩ := hs.uniq hsp
  have e13 := e12.trans e3
  rw [hE] at hq
  refine ht H3 e13 _ fun q2 H4 n4 e4 h4 => ?_
  refine ⟨.tuple [.int lo2, .int hi2], .tuple [.int lo2, .int hi2], .tup (st_of (e4 _ _ hq)) (.cons (.int _) (.cons (.int _) .nil)), .tup (st_of h4) (.cons (.int _) (.cons (.int _) .nil)), rfl, rfl, ?_⟩
  refine ⟨_, rfl, ?_⟩
  have : PyData.eqv (.tuple [.int lo2, .int hi2]) (.tuple [.int lo2, .int hi2]) = true := by simp [PyData.eqv, PyData.eqvAll]
  rw [this, if_neg (by decide)]
  exact next_raw (k H4 (e13.trans e4))
theorem q_neB {K : PySem.W.Frag} {σ : L2.St} {H : Hp} {i : Nat} {u tz : TS} {tt : TE} {D : Ends} {l p : Addr} {rows : List Row} {nd : Nd} {lo hi : Int} {E : XK} (s0 : σ[3]? = some (some (.ref l))) (s1 : σ[i]? = some (some (.ref p))) (hV : VarsAt H l rows) (hF : RowsFit rows) (hnm : ∀ w ∈ rows, nameOk w.name = true) (hT : TreeAt H p nd) (hI : NdIn rows nd) (hE : nd.isE = true)
    (hsp : IsSp rows nd lo hi) (ht : EvU tt σ H [.int lo, .int hi]) (k : ∀ H1, Ex H H1 → tz D σ H1) : tSeq (tIfS (tTest (tOp (rNeD K) (tCall (spBounds K) [] E (tCons (tVar 3) (tCons (tVar i) tNil))) tt)) u tNext) tz D σ H :=
  s_neB (D := { D with nx := tz D }) s0 s1 hV hF hnm hT hI hE hsp ht k
theorem q_neO {K : PySem.W.Frag} {σ : L2.St} {H : Hp} {i : Nat} {u tz : TS} {tt : TE} {D : Ends} {l p : Addr} {rows : List Row} {nd : Nd} {lo hi : Int} {E : XK} (s0 : σ[3]? = some (some (.ref l))) (s1 : σ[i]? = some (some (.ref p))) (hV : VarsAt H l rows) (hF : RowsFit rows) (hnm : ∀ w ∈ rows, nameOk w.name = true) (hT : TreeAt H p nd) (hI : NdIn rows nd) (hE : nd.isE = false)
    (hsp : IsSp rows nd lo hi) (ht : EvU tt σ H [.bl (decide (hi = 1)), .bl (!decide (lo = 1))]) (k : ∀ H1, Ex H H1 → tz D σ H1) : tSeq (tIfS (tTest (tOp (rNeD K) (tCall (spOutc K) [] E (tCons (tVar 3) (tCons (tVar i) tNil))) tt)) u tNext) tz D σ H := by
  refine if_raw (test_raw (op_raw (?_ : tCall _ _ _ _ _ _ _)))
  refine ea_at (ev_var s0) fun H1 e1 => ?_
  refine ea_at (ev_var s1) fun H2 e2 => ?_
  have e12 := e1.trans e2
  refine ⟨l, p, rows, nd, rfl, hV.ex e12, hF, hnm, hT.ex e12, hI, hE, fun q lo2 hi2 H3 e3 hq hs => ?_⟩
  obtain ⟨rfl, rfl⟩ := hs.uniq hsp
  have e13 := e12.trans e3
  refine ht H3 e13 _ fun q2 H4 n4 e4 h4 => ?_
  generalize decide (hi2 = 1) = b1 at hq h4
  generalize (!decide (lo2 = 1)) = b2 at hq h4
  refine ⟨.tuple [.bool b1, .bool b2], .tuple [.bool b1, .bool b2], .tup (st_of (e4 _ _ hq)) (.cons (.bl _) (.cons (.bl _) .nil)), .tup (st_of h4) (.cons (.bl _) (.cons (.bl _) .nil)), rfl, rfl, ?_⟩
  refine ⟨_, rfl, ?_⟩
  have : PyData.eqv (.tuple [.bool b1, .bool b2]) (.tuple [.bool b1, .bool b2]) = true := by simp [PyData.eqv, PyData.eqvAll]
  rw [this, if_neg (by decide)]
  exact next_raw (k H4 (e13.trans e4))
theorem dp_bools {K : PySem.W.Frag} {H : Hp} : ∀ bs : List Bool, DpAll K H (bs.map V.bl) (bs.map PyData.bool)
  | [] => .nil
  | b :: bs => .cons (.bl b) (dp_bools bs)
theorem in_bools (c : Bool) : ∀ bs : List Bool, inV (.bl c) (bs.map V.bl) = bs.any fun b => b == c
  | [] => rfl
  | b :: bs => by
    have ih := in_bools c bs
    unfold inV at ih ⊢
    rw [List.map_cons, List.any_cons, List.any_cons, ih]
    cases b <;> cases c <;> rfl
theorem flat_bools : ∀ bs : List Bool, (bs.map V.bl).all flatV = true
  | [] => rfl
  | b :: bs => by rw [List.map_cons, List.all_cons, flat_bools bs]; rfl
/-- True in seen, False in seen -/
theorem ev_inBs {K : PySem.W.Frag} {σ : L2.St} {H : Hp} {tb : TE} {a : Addr} {bs : List Bool} {c b : Bool} (hb : Ev tb σ H (.ref a)) (h : H a = some (.lst (bs.map V.bl))) (hv : (bs.any fun x => x == c) = b) : Ev (tOp (rIn K false) (tC (.bl c)) tb) σ H (.bl b) := fun H1 e Q q =>
  hb H1 e _ fun H2 e2 => ⟨a, bs.map V.bl, rfl, .inl (sq_of ((e.trans e2) _ _ h)), rfl, flat_bools bs, by
    show Q (.bl (inV (.bl c) (bs.map V.bl))) H2
    rw [in_bools, hv]
    exact q H2 e2⟩
theorem any_id (bs : List Bool) : (bs.any fun x => x == true) = bs.any id := by
  congr 1
  funext b
  cases b <;> rfl
theorem any_not (bs : List Bool) : (bs.any fun x => x == false) = bs.any not := by
  congr 1
  funext b
  cases b <;> rfl
def rMin2B : List V → Hp → VK → Prop := fun xs H Q => ∃ i j, xs = [.int i, .int j] ∧ Q (.int (if j < i then j else i)) H
theorem ev_min2B {σ : L2.St} {H : Hp} {ta tb : TE} {i j : Int} (ha : Ev ta σ H (.int i)) (hb : Ev tb σ H (.int j)) : Ev (tCB rMin2B (tCons ta (tCons tb tNil))) σ H (.int (if j < i then j else i)) := ev_cb (ea_cons ha (ea_cons hb ea_nil)) fun H1 _ Q1 q1 => ⟨i, j, rfl, q1 H1 (Ex.refl H1)⟩
theorem TreeAt.bg {H H' : Hp} {bg gl p : Addr} {n : Nat} {nd : Nd} (h : TreeAt H p nd) (b : BagA H bg gl n) (e : Bg bg gl H H') : TreeAt H' p nd := h.tk (b.tk e)
/-- the law's test over the drawn expression -/
structure TOk (rows : List Row) (nd T : Nd) : Prop where
  isE : T.isE = false
  wf : T.wf
  sz : T.size ≤ nd.size + 3
  vs : T.vars = nd.vars
theorem TOk.cmp {rows : List Row} {nd : Nd} {am : Int} (hE : nd.isE = true) (hw : nd.wf) (a0 : 0 ≤ am) (a1 : am < 2 ^ 136) : TOk rows nd (.cmp false nd (.lit am "")) :=
  ⟨rfl, ⟨hE, rfl, hw, a0, a1, by decide +kernel⟩, by show 1 + nd.size + 1 ≤ _; omega, List.append_nil _⟩
theorem TOk.nt {rows : List Row} {nd : Nd} {am : Int} (hE : nd.isE = true) (hw : nd.wf) (a0 : 0 ≤ am) (a1 : am < 2 ^ 136) : TOk rows nd (.nt (.cmp false nd (.lit am ""))) :=
  ⟨rfl, ⟨rfl, (TOk.cmp (rows := rows) hE hw a0 a1).wf⟩, by show 1 + (1 + nd.size + 1) ≤ _; omega, List.append_nil _⟩
theorem TOk.inn {rows : List Row} {nd T : Nd} (t : TOk rows nd T) (hI : NdIn rows nd) (h : nd.size ≤ 24) : NdIn rows T := ⟨t.wf, by have := t.sz; omega, by rw [t.vs]; exact hI.vs, by rw [t.vs]; exact hI.nn⟩
def choN (T : Nd) : Nd := .ite T (.lit 3 "") (.lit 8 "u")
theorem TOk.cho {rows : List Row} {nd T : Nd} (t : TOk rows nd T) (hI : NdIn rows nd) (h : nd.size ≤ 24) : NdIn rows (choN T) := by
  have hv : (choN T).vars = nd.vars := by show T.vars ++ ([] ++ []) = _; rw [List.append_nil, List.append_nil, t.vs]
  refine ⟨⟨t.isE, rfl, rfl, t.wf, ⟨by decide, by decide, by decide +kernel⟩, ⟨by decide, by decide, by decide +kernel⟩⟩, by have := t.sz; show 1 + T.size + 1 + 1 ≤ 30; omega, by rw [hv]; exact hI.vs, by rw [hv]; exact hI.nn⟩
theorem due_cho {rows : List Row} {T : Nd} : ((truV rows T).map fun b => V.int (if b = true then 3 else 8)) = (numsV rows (choN T)).map (kV true) := by
  unfold truV numsV
  rw [List.map_map, List.map_map]
  congr 1
theorem BRows.small {rows : List Row} {many : Nat} (h : BRows rows many 7) : ∀ L ∈ allV rows, ∀ x, (gvOf L x).natAbs < 2 ^ 20 := fun L hL x => by
  unfold gvOf
  cases hq : L.find? (fun y => decide (y.1.name = x)) with
  | none => show (0 : Int).natAbs < 2 ^ 20; decide
  | some y =>
    have hy := List.mem_of_find?_eq_some hq
    obtain ⟨h1, h2⟩ := mem_allV.mp hL
    obtain ⟨h3, h4⟩ := h2 y hy
    have hw : y.1 ∈ rows := by rw [← h1]; exact List.mem_map_of_mem hy
    obtain ⟨a, b, c, d⟩ := h.low _ hw
    show y.2.natAbs < _
    omega
end Cf

namespace Cf
open PySem PySem.Spec PyProof.Rows L2 Evl
def topS (i : Nat) : Stmt := PySem.Challenge.pw_castforms_k64_whole_ranges_by_all_values.main.body.getD i (.Pass ⟨0, 0, 0, 0⟩)
abbrev s_check_variables : Stmt := topS 14
abbrev s_is_name : Stmt := topS 15
abbrev s_check_expression : Stmt := topS 16
abbrev s__check_node : Stmt := topS 17
abbrev s__has_form : Stmt := topS 18
abbrev s__has_items : Stmt := topS 19
abbrev s__fits : Stmt := topS 20
abbrev s_parts : Stmt := topS 21
abbrev s_rows_of : Stmt := topS 22
abbrev s__add_rows : Stmt := topS 23
abbrev s_check_values : Stmt := topS 25
abbrev s_exact : Stmt := topS 26
abbrev s__exact_pair : Stmt := topS 27
abbrev s_mathematical : Stmt := topS 28
abbrev s_spans_of : Stmt := topS 30
abbrev s_corners : Stmt := topS 31
abbrev s_bounds : Stmt := topS 32
abbrev s_outcomes : Stmt := topS 33
abbrev s__law_bag : Stmt := topS 35
abbrev s__law_draw : Stmt := topS 36
abbrev s__law_sorts : Stmt := topS 37
abbrev s__law_power : Stmt := topS 38
abbrev s__law_leaf : Stmt := topS 39
abbrev s__law_tree : Stmt := topS 40
abbrev s__law_test : Stmt := topS 41
abbrev s__law_holders : Stmt := topS 42
abbrev s__law_parts : Stmt := topS 43
abbrev s__law_literals : Stmt := topS 44
abbrev s__law_count : Stmt := topS 45
abbrev s__law_drawn : Stmt := topS 46
abbrev s__law_true : Stmt := topS 47
abbrev s__law_all_values : Stmt := topS 48
abbrev s_law : Stmt := topS 49
section
variable {P : Program} {w : World} {K : PySem.W.Frag} {mg : Str → Option Value} {base : Heap} {f : Addr} {fd : FuncData}
theorem sc_is_name : FnScope ["text", "sign"] ["text"] (defScope s_is_name) := ⟨rfl, rfl, rfl, by decide +kernel, rfl, by decide +kernel, by decide +kernel⟩
theorem ok_is_name (D : Df K mg "is_name" s_is_name ["text"] f fd) (cK : CT K mg "KINDS" vKINDS) (cR : CT K mg "RESERVED" vRESERVED) (cI : CI mg "LONGEST_NAME" 8) (cL : CS mg "LETTERS" sLETTERS) (cle : mg "len" = none) (cal : mg "all" = none) : FnG P w K mg base CX0 1 f fd ["text"] (PV preName) := by
  refine df_ok D sc_is_name (pre_len1 fun vs H v h => by obtain ⟨x, rfl, _⟩ := h; rfl) (fun cdv A outer s H vs Q E hG hr h => ?_)
  obtain ⟨v, ⟨x, rfl, hx, rfl⟩, hQ⟩ := h
  have nd := sc_is_name.nd
  refine ⟨_, (pss_cons (ps_if (PW.pt (pw_or (pt_cmpR op_in_seq (pv 0) (pe_ct rfl cK) (by rfl)) (pw_or (pt_cmpR op_in_seq (pv 0) (pe_ct rfl cR) (by rfl)) (pw_or1 (pt_not (pt_chain op_le op_le pe_int (pe_callB call_len_str (by rfl) cle (by decide +kernel) (pa_cons (pv 0) pa_nil)) (pe_ci rfl cI))))))) (pss_one (ps_ret pe_bl)) pss_nil) (pss_one (ps_ret (pe_callB (cr_all rfl) (by rfl) cal (by decide +kernel) (pa_cons (pe_lc (own := [("sign", 1)]) (g := gName 1) (tt := tYes) rfl nd (pi_str (pv 0)) (blkOk_by (N := ["text", "sign"]) (sc := defScope s_is_name) (by decide +kernel)) (fun _ _ _ _ _ => pg_name (i := 1) nd rfl (Or.inl rfl)) (fun _ _ _ _ _ => pts_nil) (fun _ _ _ _ _ => pe_cmpR op_in_sign (pv 1) (pe_cs rfl cL) (by rfl))) pa_nil))))), ?_⟩
  unfold nameOk at hx
  rw [Bool.and_eq_true, Bool.and_eq_true, Bool.and_eq_true, Bool.not_eq_true', Bool.not_eq_true'] at hx
  obtain ⟨⟨⟨h1, h2⟩, h3⟩, h4⟩ := hx
  have hl := of_decide_eq_true h3
  refine q_when (b := false) (et_or (a := false) (b := false) (et_is (et_test (ev_ct (ev_var rfl) fun a H2 e2 t => rv_isT t rfl rfl)) h1) (fun _ => et_is (et_or (a := false) (b := false) (et_is (et_test (ev_ct (ev_var rfl) fun a H2 e2 t => rv_isT t rfl rfl)) h2) (fun _ => et_is (et_not (et_test (ev_chLe ev_c (ev_lenS (ev_var rfl) (by omega)) ev_c))) (by rw [h3]; rfl))) rfl)) (fun z => nomatch z) (fun _ H1 e1 => ?_)
  refine s_ret (ev_is (ev_allN (bs := List.replicate x.cps.size true) (fun G e Q q => (el_lcS (z := x) (fun _ => .bl true) (ev_var rfl) ?_ (fun y => rfl) (fun i c G2 e2 hc => ev_is (ev_op (ev_var rfl) ev_c rv_sign) ?_)) G e Q fun p G2 np e2 h2 => q p G2 np e2 ?_)) ?_) fun H2 e2 => hQ H2 (e1.trans e2)
  · have : x.cps.size = x.length := rfl
    omega
  · have hm : c ∈ x.cps.toList := by
      have := Array.mem_of_getElem? hc
      exact Array.mem_toList_iff.mpr this
    have := List.all_eq_true.mp h4 c hm
    rw [this]
  · rw [h2]
    congr 2
    rw [List.map_replicate]
    have hg : ∀ n : Nat, given n (fun _ => true) (fun _ => V.bl true) = List.replicate n (.bl true) := fun n => by
      unfold given
      rw [List.filter_eq_self.mpr (fun _ _ => rfl)]
      induction n with
      | zero => rfl
      | succ n ih => rw [List.range_succ, List.map_append, ih]; exact (List.replicate_succ' ..).symm
    exact hg _
  · congr 1
    rw [List.all_replicate]
    split <;> rfl

theorem sc_check_variables : FnScope ["variables", "seen", "at", "name", "kind", "low", "high"] ["variables"] (defScope s_check_variables) := ⟨rfl, rfl, rfl, by decide +kernel, rfl, by decide +kernel, by decide +kernel⟩
theorem ok_check_variables (D : Df K mg "check_variables" s_check_variables ["variables"] f fd) (cn : Cl P w K mg base 1 "is_name" ["text"] (PV preName)) (cK : CT K mg "KINDS" vKINDS) (cen : mg "enumerate" = none) : FnG P w K mg base CX0 2 f fd ["variables"] spCV := by
  refine df_ok D sc_check_variables (fun vs H Q E h => by obtain ⟨l, rows, rfl, _⟩ := h; rfl) (fun cdv A outer s H vs Q E hG hr h => ?_)
  obtain ⟨l, rows, rfl, hV, hz, hnm, hnd, hle, hQ⟩ := h
  have ndp := sc_check_variables.nd
  have hu := hu_of hr
  refine ⟨_, (pss_cons (ps_set (i := 1) ndp rfl (.inl rfl) pe_dnewK) (pss_one (ps_for PassesOwn.never rfl (pi_enum (by rfl) cen (pa_cons (pv 0) pa_nil)) (pg_tup rfl (pgs_cons (pg_name (i := 2) ndp rfl (.inl rfl)) (pgs_cons (pg_tup rfl (pgs_cons (pg_name (i := 3) ndp rfl (.inl rfl)) (pgs_cons (pg_name (i := 4) ndp rfl (.inl rfl)) (pgs_cons (pg_name (i := 5) ndp rfl (.inl rfl)) (pgs_cons (pg_name (i := 6) ndp rfl (.inl rfl)) pgs_nil))))) pgs_nil)))
        (pss_cons (ps_if (PW.pt (pw_or (pt_not (pt_val (pe_cl cn hG hr rfl (pa_cons (pv 3) pa_nil)))) (pw_or (pt_cmp (pc_din hu (pv 3) (pv 1)) rfl) (pw_or (pt_cmpR op_notIn_seq (pv 4) (pe_ct rfl cK) (by rfl)) (pw_or1 (pt_cmpR op_gt (pv 5) (pv 6) (nomark _))))))) (pss_one ps_never) pss_nil) (pss_one (ps_dput hu (pv 1) (pv 3) pe_bl rfl)))))), ?_⟩
  obtain ⟨ps, hl, hlen, hrow⟩ := id hV
  have hpl : (ps.map V.ref).length = rows.length := by rw [List.length_map, hlen]
  refine q_raw fun d nd0 => ?_
  have e1 : Ex H (upd H d (.dK [])) := Ex.new nd0
  have hd1 : (upd H d (.dK [])) d = some (.dK (seenL [])) := upd_same
  generalize upd H d (.dK []) = H1 at e1 hd1 ⊢
  dsimp only [List.set]
  refine (ev_var (v := .ref l) rfl) H1 (Ex.refl H1) _ fun H2 e2 => ⟨l, ps.map V.ref, rfl, sq_of (e2 _ _ (e1 _ _ hl)), ?_⟩
  have e02 := e1.trans e2
  have ndl : d ≠ l := fun z => by rw [z, hl] at nd0; exact nomatch nd0
  have exH : ∀ {G : Hp}, Bu d H2 G → Ex H G := fun bu b o q => bu b o (fun z => by rw [z, nd0] at q; exact nomatch q) (e02 _ _ q)
  refine for_it (n := (ps.map V.ref).length) walk_enum (fun i σ G => Bu d H2 G ∧ G d = some (.dK (seenL ((rows.map Row.name).take i))) ∧ ∃ y2 y3 y4 y5 y6, σ = [some (.ref l), some (.ref d), y2, y3, y4, y5, y6]) ⟨Bu.refl d H2, e2 _ _ hd1, none, none, none, none, none, rfl⟩ (fun i σ G _ h => sq_of (h.1 _ _ (Ne.symm ndl) (e2 _ _ (e1 _ _ hl)))) ?_ ?_
  · intro i x σ G G' hi hp hy
    obtain ⟨bu, hD, y2, y3, y4, y5, y6, rfl⟩ := hp
    obtain ⟨T, x5, x6, rfl, hTn, rfl, h5, h6⟩ := hy
    cases h5
    have h6 : (ps.map V.ref)[i]? = some x6 := h6
    rw [List.getElem?_map] at h6
    obtain ⟨q, hq, rfl⟩ := Option.map_eq_some_iff.mp h6
    have hir : i < rows.length := by rw [← hpl]; exact hi
    have hri : rows[i]? = some rows[i] := List.getElem?_eq_getElem hir
    obtain ⟨p2, q1, q2⟩ := hrow i rows[i] hri
    rw [hq] at q1
    cases q1
    have hmem := List.mem_of_getElem? hri
    have hnew : rows[i].name ∉ (rows.map Row.name).take i := fun hm => by
      have h1 : (rows.map Row.name)[i]? = some rows[i].name := by rw [List.getElem?_map, hri]; rfl
      obtain ⟨j, hj1, hj2⟩ := List.getElem_of_mem hm
      rw [List.length_take] at hj1
      rw [List.getElem_take] at hj2
      have := (List.getElem_inj (i := j) (j := i) (h₀ := by omega) (h₁ := by rw [List.length_map]; exact hir) hnd).mp (by rw [hj2, List.getElem_map])
      omega
    have htk : (rows.map Row.name).take (i + 1) = (rows.map Row.name).take i ++ [rows[i].name] := by
      rw [List.take_add_one, List.getElem?_map, hri]
      rfl
    rw [htk, ← seen_put hnew]
    have k1 := hnm _ hmem
    have k2 := hle _ hmem
    generalize rows[i] = wr at q2 k1 k2 hnew ⊢
    have eT : Ex G (upd G T (.tup [.int (i : Nat), .ref q])) := Ex.new hTn
    have hT2 : (upd G T (.tup [.int (i : Nat), .ref q])) T = some (.tup [.int (i : Nat), .ref q]) := upd_same
    generalize upd G T (.tup [.int (i : Nat), .ref q]) = G5 at eT hT2 ⊢
    have hq5 := eT _ _ (exH bu _ _ q2)
    refine ⟨T, _, rfl, st_of hT2, rfl, _, _, rfl, _, _, rfl, q, _, rfl, st_of hq5, rfl, _, _, rfl, _, _, rfl, _, _, rfl, _, _, rfl, rfl, rfl, ?_⟩
    dsimp only [List.set]
    have hD5 := eT _ _ hD
    refine q_when (b := false) (et_or (a := false) (b := false) (et_is (et_not (et_B (ev_call (ea_cons (ev_var rfl) ea_nil) (spName k1)))) rfl) (fun _ => et_is (et_or (a := false) (b := false) (et_is (et_B (ev_dinK (ev_var rfl) (ev_var rfl) hD5)) (decide_eq_false hnew)) (fun _ => et_is (et_or (a := false) (b := false) (et_is (et_test (ev_ct (ev_var rfl) fun a G e t => rv_niT t rfl rfl)) (by cases wr.kind <;> rfl)) (fun _ => et_is (et_test (ev_op (ev_var rfl) (ev_var rfl) rv_I0)) (decide_eq_false (by omega)))) rfl)) rfl)) (fun z => nomatch z) (fun _ G6 e6 => ?_)
    have hl6 : (seenL ((rows.map Row.name).take i)).length < 100000 := by
      unfold seenL
      rw [List.length_map, List.length_take]
      omega
    refine ev_c G6 (Ex.refl G6) _ fun G7 e7 => (ev_var rfl) G7 (Ex.refl G7) _ fun G8 e8 => (ev_var rfl) G8 (Ex.refl G8) _ fun G9 e9 => ⟨d, _, rfl, DPut.k (k := .inr wr.name) ((e6.trans e7).trans (e8.trans e9) _ _ hD5) (sz_lt hl6), fun b o nb z => ?_, upd_same, _, _, _, _, _, rfl⟩
    rw [upd_ne nb]
    exact (e6.trans e7).trans (e8.trans e9) _ _ (eT _ _ (bu b o nb z))
  · intro σ G hp
    obtain ⟨bu, hD, y2, y3, y4, y5, y6, rfl⟩ := hp
    exact hQ G (exH bu)

theorem sc__fits : FnScope ["form", "item", "unused"] ["form", "item", "unused"] (defScope s__fits) := ⟨rfl, rfl, rfl, by decide +kernel, rfl, by decide +kernel, by decide +kernel⟩
theorem ok__fits (D : Df K mg "_fits" s__fits ["form", "item", "unused"] f fd) (cS : CT K mg "SUFFIXES" vSUFFIXES) (cK : CT K mg "KINDS" vKINDS) (cis : mg "isinstance" = none) (cin : mg "int" = none) : FnG P w K mg base CX0 1 f fd ["form", "item", "unused"] spFits := by
  refine df_ok D sc__fits (fun vs H Q E h => by obtain ⟨fo, x, d, ns, rfl, _⟩ := h; rfl) (fun cdv A outer s H vs Q E hG hr h => ?_)
  obtain ⟨fo, x, d, ns, rfl, hF, hd, hQ⟩ := h
  have hu := hu_of hr
  refine ⟨_, (pss_cons (ps_if (pt_cmpR op_eq (pv 0) pe_str (nomark _)) (pss_one (ps_ret (pe_cmp (pc_din hu (pv 1) (pv 2)) rfl))) pss_nil) (pss_cons (ps_if (pt_cmpR op_eq (pv 0) pe_str (nomark _)) (pss_one (ps_ret (pe_and (pe_callB RZ.call_isTy (by rfl) cis (by decide +kernel) (pa_cons (pv 1) (pa_cons (pe_bltn (v := .ty "int") (by rfl) cin (by decide +kernel) rfl) pa_nil))) (pe_one (pe_cmpR op_ge (pv 1) pe_int (nomark _)))))) pss_nil) (pss_cons (ps_if (pt_cmpR op_eq (pv 0) pe_str (nomark _)) (pss_one (ps_ret (pe_cmpR op_in_seq (pv 1) (pe_ct rfl cS) (by rfl)))) pss_nil) (pss_cons (ps_if (pt_cmpR op_eq (pv 0) pe_str (nomark _)) (pss_one (ps_ret (pe_cmpR op_in_seq (pv 1) (pe_ct rfl cK) (by rfl)))) pss_nil) (pss_one (ps_ret pe_bl)))))), ?_⟩
  have is : ∀ {G : Hp} {c : Str}, EvT (tTest (tOp rEq (tVar 0) (tC (.str c)))) [some (.str fo), some x, some (.ref d)] G (decide (V.str fo = .str c)) := et_test (ev_op (ev_var rfl) ev_c (rv_eq rfl))
  rcases hF with ⟨rfl, sx, rfl, hin⟩ | ⟨rfl, n, rfl, hn⟩ | ⟨rfl, sx, rfl, hin⟩ | ⟨rfl, kd, rfl⟩ | hlast
  · refine q_when (et_is is (decide_eq_true rfl)) (fun _ H1 e1 => ?_) (fun z => nomatch z)
    exact s_ret (ev_is (ev_dinK (ev_var rfl) (ev_var rfl) (e1 _ _ hd)) (by rw [decide_eq_true hin])) fun H2 e2 => hQ H2 (e1.trans e2)
  · refine q_when (b := false) (et_is is (by decide)) (fun z => nomatch z) (fun _ H1 e1 => ?_)
    refine q_when (et_is is (decide_eq_true rfl)) (fun _ H2 e2 => ?_) (fun z => nomatch z)
    exact s_ret (ev_is (ev_andV (a := true) (ev_cb (ea_cons (ev_var rfl) (ea_cons ev_c ea_nil)) fun G e Q q => ⟨_, _, rfl, .int n, q G (Ex.refl G)⟩) (fun _ => ev_op (ev_var rfl) ev_c rv_I0)) (by rw [decide_eq_true hn]; rfl)) fun H3 e3 => hQ H3 ((e1.trans e2).trans e3)
  · refine q_when (b := false) (et_is is (by decide)) (fun z => nomatch z) (fun _ H1 e1 => ?_)
    refine q_when (b := false) (et_is is (by decide)) (fun z => nomatch z) (fun _ H2 e2 => ?_)
    refine q_when (et_is is (decide_eq_true rfl)) (fun _ H3 e3 => ?_) (fun z => nomatch z)
    have hi : inV (.str sx) vSUFFIXES = true := by
      simp only [sufs, List.mem_cons, List.not_mem_nil, or_false] at hin
      rcases hin with rfl | rfl | rfl | rfl | rfl | rfl <;> decide +kernel
    exact s_ret (ev_is (ev_ct (ev_var rfl) fun a G e t => rv_isT t rfl rfl) (by rw [hi])) fun H4 e4 => hQ H4 ((e1.trans e2).trans (e3.trans e4))
  · refine q_when (b := false) (et_is is (by decide)) (fun z => nomatch z) (fun _ H1 e1 => ?_)
    refine q_when (b := false) (et_is is (by decide)) (fun z => nomatch z) (fun _ H2 e2 => ?_)
    refine q_when (b := false) (et_is is (by decide)) (fun z => nomatch z) (fun _ H3 e3 => ?_)
    refine q_when (et_is is (decide_eq_true rfl)) (fun _ H4 e4 => ?_) (fun z => nomatch z)
    have hi : inV kd.v vKINDS = true := by cases kd <;> rfl
    exact s_ret (ev_is (ev_ct (ev_var rfl) fun a G e t => rv_isT t rfl rfl) (by rw [hi])) fun H5 e5 => hQ H5 ((e1.trans e2).trans (e3.trans (e4.trans e5)))
  · have no : ∀ c : Str, c = "name" ∨ c = "number" ∨ c = "suffix" ∨ c = "kind" → decide (V.str fo = .str c) = false := fun c hc => by
      rcases hlast with rfl | rfl <;> rcases hc with rfl | rfl | rfl | rfl <;> decide
    refine q_when (b := false) (et_is is (no _ (.inl rfl))) (fun z => nomatch z) (fun _ H1 e1 => ?_)
    refine q_when (b := false) (et_is is (no _ (.inr (.inl rfl)))) (fun z => nomatch z) (fun _ H2 e2 => ?_)
    refine q_when (b := false) (et_is is (no _ (.inr (.inr (.inl rfl))))) (fun z => nomatch z) (fun _ H3 e3 => ?_)
    refine q_when (b := false) (et_is is (no _ (.inr (.inr (.inr rfl))))) (fun z => nomatch z) (fun _ H4 e4 => ?_)
    exact s_ret ev_c fun H5 e5 => hQ H5 ((e1.trans e2).trans (e3.trans (e4.trans e5)))

theorem sc__has_items : FnScope ["node", "unused", "form", "item"] ["node", "unused"] (defScope s__has_items) := ⟨rfl, rfl, rfl, by decide +kernel, rfl, by decide +kernel, by decide +kernel⟩
theorem ok__has_items (D : Df K mg "_has_items" s__has_items ["node", "unused"] f fd) (cIt : CIt K w mg) (cf : Cl P w K mg base 1 "_fits" ["form", "item", "unused"] spFits) (czi : mg "zip" = none) (cal : mg "all" = none) : FnG P w K mg base CX0 2 f fd ["node", "unused"] spItems := by
  refine df_ok D sc__has_items (fun vs H Q E h => by obtain ⟨p, nd, d, ns, rfl, _⟩ := h; rfl) (fun cdv A outer s H vs Q E hG hr h => ?_)
  obtain ⟨p, nd, d, ns, rfl, hT, hw, hv, hd, hQ⟩ := h
  have ndp := sc__has_items.nd
  obtain ⟨aI, es, nn, gI, kI, fI⟩ := cIt
  obtain ⟨tf, nsf, hf⟩ := fI nd
  have kd : KDct K w aI nd.word (.ref tf) := ⟨es, nn, _, kI.at_, kI.lit, nsf, rfl⟩
  refine ⟨_, (pss_one (ps_ret (pe_callB (cr_all rfl) (by rfl) cal (by decide +kernel) (pa_cons (pe_lc (own := [("form", 2), ("item", 3)]) (g := gTup K 2 (gCons (gName 2) (gCons (gName 3) gNil))) (tt := tYes) rfl ndp (RZ.pi_zipA rfl czi (pa_cons (pe_ix ix_kdict (pe_glob (v := .ref aI) rfl gI rfl) (pe_ix ix_tup (pv 0) pe_int (fun _ _ => rfl)) (fun _ _ => rfl)) (pa_cons (pe_slice sl_tup (pv 0) (po_some pe_int) po_none) pa_nil))) (blkOk_by (N := ["node", "unused", "form", "item"]) (sc := defScope s__has_items) (by decide +kernel))
      (fun _ _ _ _ _ => pg_tup rfl (pgs_cons (pg_name (i := 2) ndp rfl (Or.inl rfl)) (pgs_cons (pg_name (i := 3) ndp rfl (Or.inl rfl)) pgs_nil))) (fun _ _ _ _ _ => pts_nil) (fun _ _ _ _ _ => pe_cl cf hG hr rfl (pa_cons (pv 2) (pa_cons (pv 3) (pa_cons (pv 1) pa_nil))))) pa_nil)))), ?_⟩
  obtain ⟨rest, hp, hR⟩ := hT.rest
  have hlen := rest_len hR
  obtain ⟨fl1, fl3⟩ := forms_len nd
  refine ret_raw (?_ : tCB _ _ _ _ _)
  refine (?_ : tCons _ _ _ _ _)
  refine (?_ : tLc _ _ _ _ _ _ _ _)
  refine (ev_op (ev_c (v := .ref aI)) (ev_op (ev_var rfl) ev_c (rv_ixT (st_of hp) (atI_nat (j := 0) rfl))) fun G e Q q => ⟨aI, nd.word, .ref tf, rfl, rfl, kd, q G (Ex.refl G)⟩) H (Ex.refl H) _ fun H1 e1 => ?_
  refine (?_ : tSl _ _ _ _ _ _ _)
  refine ⟨_, rfl, 1, rfl, p, _, rfl, st_of (e1 _ _ hp), fun z => ?_, fun t nt => ?_⟩
  · have := z.1
    simp only [HT.sIx, List.length_cons] at this
    rw [if_neg (by decide)] at this
    simp at this
  have e2 : Ex H1 (upd H1 t (.tup (cutV (.str nd.word :: rest) (some 1) none))) := Ex.new nt
  have ht : (upd H1 t (.tup (cutV (.str nd.word :: rest) (some 1) none))) t = some (.tup rest) := by
    rw [upd_same]
    congr 2
    have : cutV (.str nd.word :: rest) (some 1) none = ((V.str nd.word :: rest).take (V.str nd.word :: rest).length).drop 1 := by
      simp [cutV, HT.sIx]
    rw [this, List.take_length]
    rfl
  generalize upd H1 t (.tup (cutV (.str nd.word :: rest) (some 1) none)) = H2 at e2 ht ⊢
  have e02 := e1.trans e2
  refine ⟨tf, t, _, _, rfl, .inr ⟨hf H2, st_of ht, fun Dl nD => ?_⟩⟩
  have nDt : Dl ≠ t := fun z => by rw [z, ht] at nD; exact nomatch nD
  have nm : (nd.forms.map V.str).length = nd.forms.length := List.length_map ..
  have exH : ∀ {G : Hp}, Bu Dl H2 G → Ex H G := fun bu b o q => bu b o (fun z => by have := e02 _ _ q; rw [z, nD] at this; exact nomatch this) (e02 _ _ q)
  refine lc_it (n := nd.forms.length) (walk_zipT (xs := nd.forms.map V.str) (ys := rest) (by rw [nm, hlen, Nat.min_self])) (fun i G => Bu Dl H2 G ∧ G Dl = some (.lst ((List.replicate i true).map V.bl))) ⟨fun b o nb q => by rw [upd_ne nb]; exact q, by rw [upd_same]; rfl⟩ (fun i G _ h => ⟨hf G, st_of (h.1 _ _ (Ne.symm nDt) ht)⟩) ?_ ?_
  · intro i x G G' hi hp2 hy
    obtain ⟨bu, hD⟩ := hp2
    obtain ⟨T, x1, x2, rfl, hTn, rfl, h1, h2⟩ := hy
    have h1 : (nd.forms.map V.str)[i]? = some x1 := h1
    have h2 : rest[i]? = some x2 := h2
    rw [List.getElem?_map] at h1
    obtain ⟨fo, hfo, rfl⟩ := Option.map_eq_some_iff.mp h1
    have fit := rest_fits (ns := ns) hR hw hv i fo x2 hfo h2
    have nDT : Dl ≠ T := fun z => by rw [← z, hD] at hTn; exact nomatch hTn
    have eT : Ex G (upd G T (.tup [.str fo, x2])) := Ex.new hTn
    have hT2 : (upd G T (.tup [.str fo, x2])) T = some (.tup [.str fo, x2]) := upd_same
    generalize upd G T (.tup [.str fo, x2]) = G5 at eT hT2 ⊢
    refine ⟨T, _, rfl, st_of hT2, rfl, _, _, rfl, _, _, rfl, rfl, ?_⟩
    refine ⟨rfl, ?_⟩
    dsimp only [tYes]
    rw [if_pos rfl]
    have bu5 : Bu Dl H2 G5 := bu.trans (Bu.of eT)
    refine (ea_cons (ev_var rfl) (ea_cons (ev_var rfl) (ea_cons (ev_var rfl) ea_nil))) G5 (Ex.refl G5) _ fun G6 e6 => ⟨fo, x2, d, ns, rfl, fit, (exH bu5).trans e6 _ _ hd, fun G7 e7 => ⟨_, e7 _ _ (e6 _ _ (eT _ _ hD)), ?_, fun b o nb q => by rw [upd_ne nb]; exact e7 _ _ (e6 _ _ (bu5 b o nb q)), ?_⟩⟩
    · rw [List.length_map, List.length_replicate]
      exact sz_lt (by omega)
    · rw [upd_same, List.replicate_succ', List.map_append]
      rfl
  · intro G hp2
    obtain ⟨bu, hD⟩ := hp2
    refine ⟨Dl, List.replicate nd.forms.length true, rfl, sq_of hD, ?_⟩
    have : (List.replicate nd.forms.length true).all id = true := by
      rw [List.all_replicate]
      split <;> rfl
    rw [this]
    exact hQ G (exH bu)

theorem sc__has_form : FnScope ["node", "needed", "form"] ["node", "needed"] (defScope s__has_form) := ⟨rfl, rfl, rfl, by decide +kernel, rfl, by decide +kernel, by decide +kernel⟩
theorem ok__has_form (D : Df K mg "_has_form" s__has_form ["node", "needed"] f fd) (cIt : CIt K w mg) (cC : CT K mg "CONDITIONS" vCONDITIONS) (cis : mg "isinstance" = none) (ctu : mg "tuple" = none) (cle : mg "len" = none) : FnG P w K mg base CX0 1 f fd ["node", "needed"] (PV (preForm K)) := by
  refine df_ok D sc__has_form (pre_len1 fun vs H v h => by obtain ⟨p, nd, x, rfl, _⟩ := h; rfl) (fun cdv A outer s H vs Q E hG hr h => ?_)
  obtain ⟨v, ⟨p, nd, x, rfl, hT, hx, rfl⟩, hQ⟩ := h
  have ndp := sc__has_form.nd
  obtain ⟨aI, es, nn, gI, kI, fI⟩ := cIt
  obtain ⟨tf, nsf, hf⟩ := fI nd
  have kd : KDct K w aI nd.word (.ref tf) := ⟨es, nn, _, kI.at_, kI.lit, nsf, rfl⟩
  refine ⟨_, (pss_cons (ps_if (PW.pt (pw_or (pt_not (pt_val (pe_callB RZ.call_isTy (by rfl) cis (by decide +kernel) (pa_cons (pv 0) (pa_cons (pe_bltn (v := .ty "tuple") (by rfl) ctu (by decide +kernel) rfl) pa_nil))))) (pw_or (pt_not (pt_truth (pv 0) (by intro _; rfl))) (pw_or1 (pt_cmpR (op_notIn_kd kI) (pe_ix ix_tup (pv 0) pe_int (fun _ _ => rfl)) (pe_glob (v := .ref aI) rfl gI rfl) (by rfl)))))) (pss_one (ps_ret pe_bl)) pss_nil) (pss_cons (ps_set (i := 2) ndp rfl (.inl rfl) (pe_ifExp (pt_cmpR op_in_seq (pe_ix ix_tup (pv 0) pe_int (fun _ _ => rfl)) (pe_ct rfl cC) (by rfl)) pe_str pe_str)) (pss_one (ps_ret (pe_and (pe_cmpR op_in_seq (pv 1) (pe_tup (pa_cons pe_non (pa_cons (pv 2) pa_nil))) (by rfl)) (pe_one (pe_cmpR op_eq (pe_callB call_len_seq (by rfl) cle (by decide +kernel) (pa_cons (pv 0) pa_nil)) (pe_op op_add (pe_callB call_len_seq (by rfl) cle (by decide +kernel) (pa_cons (pe_ix ix_kdict (pe_glob (v := .ref aI) rfl gI rfl) (pe_ix ix_tup (pv 0) pe_int (fun _ _ => rfl)) (fun _ _ => rfl)) pa_nil)) pe_int) (nomark _)))))))), ?_⟩
  obtain ⟨rest, hp, hR⟩ := hT.rest
  have hlen := rest_len hR
  obtain ⟨fl1, fl3⟩ := forms_len nd
  have w0 : ∀ {G : Hp} {y2 : Option V}, Ex H G → Ev (tOp (rIxT K) (tVar 0) (tC (.int 0))) [some (.ref p), some x, y2] G (.str nd.word) := fun e => ev_op (ev_var rfl) ev_c (rv_ixT (st_of (e _ _ hp)) (atI_nat (j := 0) rfl))
  refine q_when (b := false) (et_or (a := false) (b := false) (et_is (et_not (et_B (ev_cb (ea_cons (ev_var rfl) (ea_cons ev_c ea_nil)) fun G e Q q => ⟨_, _, rfl, .tup (e _ _ hp), q G (Ex.refl G)⟩))) rfl) (fun _ => et_is (et_or (a := false) (b := false) (et_is (et_not (a := true) (fun G e Q q => ⟨_, rfl, true, ?_, q G (Ex.refl G)⟩)) rfl) (fun _ => et_test (ev_op (w0 (Ex.refl H)) ev_c fun G e Q q => ⟨nd.word, some _, rfl, rfl, nsf, q G (Ex.refl G)⟩))) rfl)) (fun z => nomatch z) (fun _ H1 e1 => ?_)
  · exact .inr (.inl ⟨_, st_of (e _ _ hp), rfl⟩)
  refine q_asg (v := .str (formOf nd)) (ev_if (b := !nd.isE) (et_is (et_test (ev_ct (w0 e1) fun a G e t => rv_isT t rfl rfl)) (cond_in nd)) (fun hb => ev_is ev_c (by unfold formOf; rw [if_neg (by cases h : nd.isE with | true => rw [h] at hb; exact nomatch hb | false => decide)])) (fun hb => ev_is ev_c (by unfold formOf; rw [if_pos (by cases h : nd.isE with | true => rfl | false => rw [h] at hb; exact nomatch hb)]))) fun H2 e2 => ?_
  have e12 := e1.trans e2
  have hin : inV x [.non, .str (formOf nd)] = true := by
    rcases hx with rfl | rfl
    · rfl
    · unfold formOf
      cases nd.isE <;> rfl
  have hfl : flatV x = true := by rcases hx with rfl | rfl <;> rfl
  refine s_ret (ev_is (ev_andV (a := true) (b := true) (ev_is (ev_inU (xs := [.non, .str (formOf nd)]) (ev_var rfl) (eu_tup (ea_cons ev_c (ea_cons (ev_var rfl) ea_nil)) (by simp)) hfl rfl) (by rw [hin])) (fun _ => ev_is (ev_op (ev_cb (z := .int ((V.str nd.word :: rest).length : Nat)) (ea_cons (ev_var rfl) ea_nil) fun G e Q q => ⟨p, _, rfl, .inr (st_of (e _ _ (e12 _ _ hp))), q G (Ex.refl G)⟩) (ev_op (ev_cb (z := .int ((nd.forms.map V.str).length : Nat)) (ea_cons (ev_op (ev_c (v := .ref aI)) (w0 e12) fun G e Q q => ⟨aI, nd.word, .ref tf, rfl, rfl, kd, q G (Ex.refl G)⟩) ea_nil) fun G e Q q => ⟨tf, _, rfl, .inr (hf G), q G (Ex.refl G)⟩) ev_c rv_I0) (rv_eq rfl)) ?_)) rfl) fun H3 e3 => hQ H3 (e12.trans e3)
  rw [List.length_cons, List.length_map, hlen]
  congr 1
  exact decide_eq_true (by congr 1)

theorem sc_parts : FnScope ["node", "form", "item"] ["node"] (defScope s_parts) := ⟨rfl, rfl, rfl, by decide +kernel, rfl, by decide +kernel, by decide +kernel⟩
theorem ok_parts (D : Df K mg "parts" s_parts ["node"] f fd) (cIt : CIt K w mg) (cP : CT K mg "PART_FORMS" vPARTS) (czi : mg "zip" = none) : FnG P w K mg base CX0 1 f fd ["node"] spParts := by
  refine df_ok D sc_parts (fun vs H Q E h => by obtain ⟨p, nd, rfl, _⟩ := h; rfl) (fun cdv A outer s H vs Q E hG hr h => ?_)
  obtain ⟨p, nd, rfl, hT, hQ⟩ := h
  have ndp := sc_parts.nd
  obtain ⟨aI, es, nn, gI, kI, fI⟩ := cIt
  obtain ⟨aP, gP, tP⟩ := cP
  obtain ⟨tf, nsf, hf⟩ := fI nd
  have kd : KDct K w aI nd.word (.ref tf) := ⟨es, nn, _, kI.at_, kI.lit, nsf, rfl⟩
  refine ⟨_, (pss_one (ps_ret (pe_lc (own := [("form", 1), ("item", 2)]) (g := gTup K 2 (gCons (gName 1) (gCons (gName 2) gNil))) rfl ndp (RZ.pi_zipA rfl czi (pa_cons (pe_ix ix_kdict (pe_glob (v := .ref aI) rfl gI rfl) (pe_ix ix_tup (pv 0) pe_int (fun _ _ => rfl)) (fun _ _ => rfl)) (pa_cons (pe_slice sl_tup (pv 0) (po_some pe_int) po_none) pa_nil))) (blkOk_by (N := ["node", "form", "item"]) (sc := defScope s_parts) (by decide +kernel))
      (fun _ _ _ _ _ => pg_tup rfl (pgs_cons (pg_name (i := 1) ndp rfl (Or.inl rfl)) (pgs_cons (pg_name (i := 2) ndp rfl (Or.inl rfl)) pgs_nil))) (fun _ _ _ _ _ => pts_one (pt_cmpR (op_in_seq : OpR _ _ (rIn K false)) (pv 1) (pe_glob (v := .ref aP) rfl gP rfl) (by rfl))) (fun _ _ _ _ _ => pv 2)))), ?_⟩
  obtain ⟨rest, hp, hR⟩ := hT.rest
  obtain ⟨hlen, qs, hpick, hPq⟩ := rest_pick hR
  obtain ⟨fl1, fl3⟩ := forms_len nd
  refine ret_raw (?_ : tLc _ _ _ _ _ _ _ _)
  refine (ev_op (ev_c (v := .ref aI)) (ev_op (ev_var rfl) ev_c (rv_ixT (st_of hp) (atI_nat (j := 0) rfl))) fun G e Q q => ⟨aI, nd.word, .ref tf, rfl, rfl, kd, q G (Ex.refl G)⟩) H (Ex.refl H) _ fun H1 e1 => ?_
  refine (?_ : tSl _ _ _ _ _ _ _)
  refine ⟨_, rfl, 1, rfl, p, _, rfl, st_of (e1 _ _ hp), fun z => ?_, fun t nt => ?_⟩
  · have := z.1
    simp only [HT.sIx, List.length_cons] at this
    rw [if_neg (by decide)] at this
    simp at this
  have e2 : Ex H1 (upd H1 t (.tup (cutV (.str nd.word :: rest) (some 1) none))) := Ex.new nt
  have ht : (upd H1 t (.tup (cutV (.str nd.word :: rest) (some 1) none))) t = some (.tup rest) := by
    rw [upd_same]
    congr 2
    have : cutV (.str nd.word :: rest) (some 1) none = ((V.str nd.word :: rest).take (V.str nd.word :: rest).length).drop 1 := by
      simp [cutV, HT.sIx]
    rw [this, List.take_length]
    rfl
  generalize upd H1 t (.tup (cutV (.str nd.word :: rest) (some 1) none)) = H2 at e2 ht ⊢
  have e02 := e1.trans e2
  refine ⟨tf, t, _, _, rfl, .inr ⟨hf H2, st_of ht, fun Dl nD => ?_⟩⟩
  have nDt : Dl ≠ t := fun z => by rw [z, ht] at nD; exact nomatch nD
  have nm : (nd.forms.map V.str).length = nd.forms.length := List.length_map ..
  refine lc_it (n := nd.forms.length) (walk_zipT (xs := nd.forms.map V.str) (ys := rest) (by rw [nm, hlen, Nat.min_self])) (fun i G => H2 Dl = none ∧ Bu Dl H2 G ∧ G Dl = some (.lst (pick (nd.forms.take i) (rest.take i)))) ⟨nD, fun b o nb q => by rw [upd_ne nb]; exact q, by rw [upd_same]; rfl⟩ (fun i G _ h => ⟨hf G, st_of (h.2.1 _ _ (Ne.symm nDt) ht)⟩) ?_ ?_
  · intro i x G G' hi hp2 hy
    obtain ⟨_, bu, hD⟩ := hp2
    obtain ⟨T, x1, x2, rfl, hTn, rfl, h1, h2⟩ := hy
    have h1 : (nd.forms.map V.str)[i]? = some x1 := h1
    have h2 : rest[i]? = some x2 := h2
    rw [List.getElem?_map] at h1
    obtain ⟨fo, hfo, rfl⟩ := Option.map_eq_some_iff.mp h1
    have stp := pick_step nd.forms rest i fo x2 hfo h2
    have nDT : Dl ≠ T := fun z => by rw [← z, hD] at hTn; exact nomatch hTn
    have eT : Ex G (upd G T (.tup [.str fo, x2])) := Ex.new hTn
    have hT2 : (upd G T (.tup [.str fo, x2])) T = some (.tup [.str fo, x2]) := upd_same
    generalize upd G T (.tup [.str fo, x2]) = G5 at eT hT2 ⊢
    refine ⟨T, _, rfl, st_of hT2, rfl, _, _, rfl, _, _, rfl, rfl, ?_⟩
    refine ⟨rfl, ?_⟩
    refine (et_test (ev_op (ev_var rfl) ev_c (rv_isT (tP G5) rfl rfl))) G5 (Ex.refl G5) _ fun G6 e6 => ?_
    have bu6 : Bu Dl H2 G6 := bu.trans ((Bu.of eT).trans (Bu.of e6))
    cases hpt : isPart fo with
    | true =>
      rw [if_pos (show inV (.str fo) vPARTS = true from hpt)]
      refine ⟨x2, rfl, _, e6 _ _ (eT _ _ hD), ?_, nD, fun b o nb q => by rw [upd_ne nb]; exact bu6 b o nb q, ?_⟩
      · have := pick_len (nd.forms.take i) (rest.take i)
        rw [List.length_take] at this
        exact sz_lt (by omega)
      · rw [upd_same, stp, if_pos hpt]
    | false =>
      rw [if_neg (show ¬ inV (.str fo) vPARTS = true from by rw [show inV (.str fo) vPARTS = false from hpt]; decide)]
      refine ⟨nD, bu6, ?_⟩
      rw [stp, if_neg (by rw [hpt]; decide), List.append_nil]
      exact e6 _ _ (eT _ _ hD)
  · intro G hp2
    obtain ⟨_, bu, hD⟩ := hp2
    rw [← hlen] at hD
    rw [hlen, List.take_length, ← hlen, List.take_length, hpick] at hD
    have eG : Ex H G := fun b o q => bu b o (fun z => by have := e02 _ _ q; rw [z, nD] at this; exact nomatch this) (e02 _ _ q)
    exact hQ Dl qs G (fresh_back e02 nD) eG hD (hPq.tk (TupK.of eG))

theorem sc__check_node : FnScope ["path", "node", "needed", "unused", "places", "at", "part", "place", "form"] ["path", "node", "needed", "unused"] (defScope s__check_node) := ⟨rfl, rfl, rfl, by decide +kernel, rfl, by decide +kernel, by decide +kernel⟩
theorem step__check_node {d k : Nat} (D : Df K mg "_check_node" s__check_node ["path", "node", "needed", "unused"] f fd) (hk2 : 2 ≤ k) (cIt : CIt K w mg) (cP : CT K mg "PART_FORMS" vPARTS) (cf : Cl P w K mg base 1 "_has_form" ["node", "needed"] (PV (preForm K))) (ci : Cl P w K mg base 2 "_has_items" ["node", "unused"] spItems) (cp : Cl P w K mg base 1 "parts" ["node"] spParts) (czi : mg "zip" = none) (cen : mg "enumerate" = none)
    (cs : Cl P w K mg base k "_check_node" ["path", "node", "needed", "unused"] (spNode K d)) : FnG P w K mg base CX0 (k + 1) f fd ["path", "node", "needed", "unused"] (spNode K (d + 1)) := by
  refine df_ok D sc__check_node (fun vs H Q E h => by obtain ⟨t, p, x, u, pt, nd, ns, rfl, _⟩ := h; rfl) (fun cdv A outer s H vs Q E hG hr h => ?_)
  obtain ⟨t, p, x, u, pt, nd, ns, rfl, ht, hpt, hT, hw, hsz, hx, hu0, hv, hvn, hns, hQ⟩ := h
  have ndp := sc__check_node.nd
  have hk1 : 1 ≤ k := by omega
  have hu := hu_of hr
  obtain ⟨aI, es, nn, gI, kI, fI⟩ := cIt
  obtain ⟨aP, gP, tP⟩ := cP
  obtain ⟨tf, nsf, hf⟩ := fI nd
  have kd : KDct K w aI nd.word (.ref tf) := ⟨es, nn, _, kI.at_, kI.lit, nsf, rfl⟩
  refine ⟨_, (pss_cons (ps_if (PW.pt (pw_or (pt_not (pt_val (pe_cl cf hG hr rfl (pa_cons (pv 1) (pa_cons (pv 2) pa_nil)) hk1))) (pw_or1 (pt_not (pt_val (pe_cl ci hG hr rfl (pa_cons (pv 1) (pa_cons (pv 3) pa_nil)) hk2)))))) (pss_one ps_never) pss_nil) (pss_cut (ps_if (pt_cmpR op_eq (pe_ix ix_tup (pv 1) pe_int (fun _ _ => rfl)) pe_str (nomark _)) (pss_one (ps_ddel (pv 3) (pe_ix ix_tup (pv 1) pe_int (fun _ _ => rfl)))) pss_nil) (pss_cons (ps_setLc (i := 4) (own := [("form", 8)]) (g := gName 8) rfl ndp rfl rfl (sw_true rfl rfl rfl (by decide +kernel)) (pi_tup (pe_ix ix_kdict (pe_glob (v := .ref aI) rfl gI rfl) (pe_ix ix_tup (pv 1) pe_int (fun _ _ => rfl)) (fun _ _ => rfl))) (blkOk_by (N := ["path", "node", "needed", "unused", "places", "at", "part", "place", "form"]) (sc := defScope s__check_node) (by decide +kernel)) (fun _ _ _ _ _ => pg_name (i := 8) ndp rfl (Or.inl rfl)) (fun _ _ _ _ _ => pts_one (pt_cmpR (op_in_seq : OpR _ _ (rIn K false)) (pv 8) (pe_glob (v := .ref aP) rfl gP rfl) (by rfl))) (fun _ _ _ _ _ => pv 8)) (pss_one (ps_for PassesOwn.never rfl (pi_ez (by rfl) cen (by rfl) czi (pa_cons (pe_cl cp hG hr rfl (pa_cons (pv 1) pa_nil) hk1) (pa_cons (pv 4) pa_nil))) (pg_tup rfl (pgs_cons (pg_name (i := 5) ndp rfl (.inl rfl)) (pgs_cons (pg_tup rfl (pgs_cons (pg_name (i := 6) ndp rfl (.inl rfl)) (pgs_cons (pg_name (i := 7) ndp rfl (.inl rfl)) pgs_nil))) pgs_nil)))
        (pss_one (ps_expr (pe_cl cs hG hr rfl (pa_cons (pe_op op_catA (pv 0) (pe_tup (pa_cons (pv 5) pa_nil))) (pa_cons (pv 6) (pa_cons (pv 7) (pa_cons (pv 3) pa_nil)))) (Nat.le_refl _))))))))), ?_⟩
  obtain ⟨rest, hd⟩ := hT.head
  have w0 : ∀ {G : Hp} {y4 : Option V}, G p = some (.tup (.str nd.word :: rest)) → Ev (tOp (rIxT K) (tVar 1) (tC (.int 0))) [some (.ref t), some (.ref p), some x, some (.ref u), y4, none, none, none, none] G (.str nd.word) := fun h => ev_op (ev_var rfl) ev_c (rv_ixT (st_of h) (atI_nat (j := 0) rfl))
  refine q_when (b := false) (et_or (a := false) (b := false) (et_is (et_not (et_B (ev_call (ea_cons (ev_var rfl) (ea_cons (ev_var rfl) ea_nil)) (PV.sp (v := .bl true) fun H1 e => ⟨p, nd, x, rfl, hT.ex e, hx, rfl⟩)))) rfl) (fun _ => et_is (et_not (et_B (ev_call (z := .bl true) (ea_cons (ev_var rfl) (ea_cons (ev_var rfl) ea_nil)) fun H1 e Q2 q E2 => ⟨p, nd, u, ns, rfl, hT.ex e, hw, hv, e _ _ hu0, fun H2 e2 => q H2 e2⟩))) rfl)) (fun z => nomatch z) (fun _ H1 e1 => ?_)
  have hu1 := e1 _ _ hu0
  have hd1 := e1 _ _ hd
  refine q_cut (M := fun σ' G => σ' = [some (.ref t), some (.ref p), some x, some (.ref u), none, none, none, none, none] ∧ Bu u H1 G ∧ ∃ ns1 : List Str, G u = some (.dK (seenL ns1)) ∧ ns1.length ≤ 100 ∧ ((nd.parts = [] ∧ ns1 = without ns nd.vars) ∨ (nd.vars = varsL nd.parts ∧ ns1 = ns))) ?_ ?_
  · by_cases hwv : nd.word = "var"
    · obtain ⟨v0, rfl⟩ := word_var hwv
      have hp1 : H1 p = some (.tup [.str "var", .str v0]) := e1 _ _ hT
      refine s_when (b := true) (et_is (et_test (ev_op (w0 hd1) ev_c (rv_eq rfl))) (decide_eq_true rfl)) (fun _ H2 e2 => ?_) (fun z => nomatch z)
      refine ⟨_, rfl, (ev_op (ev_var rfl) ev_c (rv_ixT (st_of (e2 _ _ hp1)) (atI_nat (j := 1) rfl))) H2 (Ex.refl H2) _ fun H3 e3 => ⟨u, seenL ns, .inr v0, rfl, (e2.trans e3) _ _ hu1, rfl, ?_, rfl, fun b o nb z => ?_, without ns [v0], ?_, Nat.le_trans (without_len _ _) hns, .inl ⟨rfl, rfl⟩⟩⟩
      · rw [seen_in]
        exact decide_eq_true (hv v0 (List.mem_cons_self ..))
      · rw [upd_ne nb]
        exact (e2.trans e3) _ _ z
      · rw [upd_same, seen_drop]
        rfl
    · refine s_when (b := false) (et_is (et_test (ev_op (w0 hd1) ev_c (rv_eq rfl))) (decide_eq_false fun z => hwv (V.str.inj z))) (fun z => nomatch z) (fun _ H2 e2 => ⟨rfl, Bu.of e2, ns, e2 _ _ hu1, hns, .inr ⟨vars_parts fun v0 z => hwv (by rw [z]; rfl), rfl⟩⟩)
  intro σ' G hM
  obtain ⟨rfl, bG, ns1, hu2, hns1, hcase⟩ := hM
  have nu : ∀ {b : Addr} {o : HO}, H1 b = some o → (∀ kvs, o ≠ .dK kvs) → b ≠ u := fun h n z => by
    rw [z, hu1] at h
    exact n _ (Option.some.inj h).symm
  have tkG : TupK H1 G := fun b xs h => bG b _ (nu h fun kvs z => nomatch z) h
  have hdG := tkG _ _ hd1
  have hTG := (hT.ex e1).tk tkG
  have htG : SqT K G t (pathV pt) := sqt_dk bG hu1 (ex_t e1 ht)
  refine q_raw (?_ : tLc _ _ _ _ _ _ _ _)
  refine (ev_op (ev_c (v := .ref aI)) (w0 hdG) fun G2 e Q q => ⟨aI, nd.word, .ref tf, rfl, rfl, kd, q G2 (Ex.refl G2)⟩) G (Ex.refl G) _ fun G1 e2 => ⟨tf, rfl, ⟨_, hf G1⟩, fun Dl nD => ?_⟩
  obtain ⟨fl1, fl3⟩ := forms_len nd
  have hu3 := e2 _ _ hu2
  have nDu : Dl ≠ u := fun z => by rw [z, hu3] at nD; exact nomatch nD
  have exD : ∀ {F : Hp}, Bu Dl G1 F → Ex G1 F := fun bu b o q => bu b o (fun z => by rw [z, nD] at q; exact nomatch q) q
  refine lc_it (n := (nd.forms.map V.str).length) walk_tup (fun i F => Bu Dl G1 F ∧ F Dl = some (.lst (((nd.forms.take i).filter isPart).map V.str))) ⟨fun b o nb q => by rw [upd_ne nb]; exact q, by rw [upd_same]; rfl⟩ (fun i F _ h => hf F) ?_ ?_
  · intro i y F F' hi hp hy
    obtain ⟨bu, hD⟩ := hp
    obtain ⟨rfl, h1⟩ := hy
    rw [List.getElem?_map] at h1
    obtain ⟨fo, hfo, rfl⟩ := Option.map_eq_some_iff.mp h1
    have htk : nd.forms.take (i + 1) = nd.forms.take i ++ [fo] := by rw [List.take_add_one, hfo]; rfl
    refine (⟨rfl, ?_⟩ : _ ∧ _)
    refine (et_test (ev_op (ev_var rfl) ev_c (rv_isT (tP F') rfl rfl))) F' (Ex.refl F') _ fun F2 e3 => ?_
    have bu2 : Bu Dl G1 F2 := bu.trans (Bu.of e3)
    cases hpt : isPart fo with
    | true =>
      rw [if_pos (show inV (.str fo) vPARTS = true from hpt)]
      refine ⟨.str fo, rfl, _, e3 _ _ hD, ?_, fun b o nb q => by rw [upd_ne nb]; exact bu2 b o nb q, ?_⟩
      · have := List.length_filter_le isPart (nd.forms.take i)
        rw [List.length_map]
        rw [List.length_take] at this
        exact sz_lt (by omega)
      · rw [upd_same, htk, List.filter_append, List.map_append, show [fo].filter isPart = [fo] by simp [hpt]]
        rfl
    | false =>
      rw [if_neg (show ¬ inV (.str fo) vPARTS = true from by rw [show inV (.str fo) vPARTS = false from hpt]; decide)]
      refine ⟨bu2, ?_⟩
      rw [htk, List.filter_append, show [fo].filter isPart = [] by simp [hpt], List.append_nil]
      exact e3 _ _ hD
  intro F hp
  obtain ⟨bF, hD⟩ := hp
  have hft : nd.forms.take (nd.forms.map V.str).length = nd.forms := List.take_of_length_le (by rw [List.length_map]; exact Nat.le_refl _)
  rw [hft, forms_parts hw] at hD
  have eF := e2.trans (exD bF)
  have huF := eF _ _ hu2
  have hTF := hTG.ex eF
  dsimp only [gName, List.set]
  refine (ev_var (v := .ref p) rfl) F (Ex.refl F) _ fun F1 e3 => ⟨p, nd, rfl, hTF.ex e3, fun l qs F2 n4 e4 h4 hP => ?_⟩
  have e34 := e3.trans e4
  have hD2 := e34 _ _ hD
  have hu4 := e34 _ _ huF
  obtain ⟨hPl, hPa⟩ := hP.at
  have nlu : l ≠ u := ne_of h4 hu4 fun z => nomatch z
  refine ⟨_, rfl, l, Dl, qs.map V.ref, (nd.parts.map formOf).map V.str, rfl, sq_of h4, sq_of hD2, ?_⟩
  refine for_it (n := nd.parts.length) (walk_ez (by rw [List.length_map, List.length_map, List.length_map, hPl, Nat.min_self])) (fun i σ F' => Bu u F2 F' ∧ F' u = some (.dK (seenL (without ns1 (varsL (nd.parts.take i))))) ∧ ∃ y5 y6 y7, σ = [some (.ref t), some (.ref p), some x, some (.ref u), some (.ref Dl), y5, y6, y7, none]) ⟨Bu.refl u F2, by rw [hu4]; congr 3; exact (without_nil ns1).symm, none, none, none, rfl⟩ (fun i σ F' _ h => ⟨sq_of (h.1 _ _ nlu h4), sq_of (h.1 _ _ nDu hD2)⟩) ?_ ?_
  · intro i v σ F' F'' hi hp hy
    obtain ⟨bu, hu5, y5, y6, y7, rfl⟩ := hp
    obtain ⟨T1, T2, x1, x2, rfl, f1, f2, f12, rfl, h1, h2⟩ := hy
    have h1 : (qs.map V.ref)[i]? = some x1 := h1
    have h2 : ((nd.parts.map formOf).map V.str)[i]? = some x2 := h2
    rw [List.getElem?_map] at h1
    obtain ⟨q, hq, rfl⟩ := Option.map_eq_some_iff.mp h1
    obtain ⟨en, hen, hTe⟩ := hPa i q hq
    rw [List.getElem?_map, List.getElem?_map, hen] at h2
    have h2 : V.str (formOf en) = x2 := Option.some.inj h2
    subst h2
    obtain ⟨hwe, hse⟩ := parts_wf hw en (List.mem_of_getElem? hen)
    have e5 : Ex F' (upd F' T1 (.tup [.ref q, .str (formOf en)])) := Ex.new f1
    have hT1 : (upd F' T1 (.tup [.ref q, .str (formOf en)])) T1 = some (.tup [.ref q, .str (formOf en)]) := upd_same
    have f2' : (upd F' T1 (.tup [.ref q, .str (formOf en)])) T2 = none := by rw [upd_ne (Ne.symm f12)]; exact f2
    generalize upd F' T1 (.tup [.ref q, .str (formOf en)]) = F3 at e5 hT1 f2' ⊢
    have e6 : Ex F3 (upd F3 T2 (.tup [.int (i : Nat), .ref T1])) := Ex.new f2'
    have hT2 : (upd F3 T2 (.tup [.int (i : Nat), .ref T1])) T2 = some (.tup [.int (i : Nat), .ref T1]) := upd_same
    generalize upd F3 T2 (.tup [.int (i : Nat), .ref T1]) = F4 at e6 hT2 ⊢
    refine ⟨T2, _, rfl, st_of hT2, rfl, _, _, rfl, _, _, rfl, T1, _, rfl, st_of (e6 _ _ hT1), rfl, _, _, rfl, _, _, rfl, rfl, rfl, ?_⟩
    dsimp only [List.set]
    have tkF : TupK F2 F' := fun b xs h => bu b _ (fun z => by rw [z, hu4] at h; exact nomatch h) h
    have tk2 : TupK F2 F4 := tkF.trans (TupK.of (e5.trans e6))
    have e56 := e5.trans e6
    have ht4 : SqT K F4 t (pathV pt) := ex_t e56 (sqt_dk bu hu4 (ex_t e34 (ex_t eF htG)))
    refine (?_ : tCall _ _ _ _ _ _ _)
    refine (?_ : tOp _ _ _ _ _ _)
    refine op_raw ⟨_, rfl, ?_⟩
    refine (eu_tup (ea_cons (ev_var rfl) ea_nil) (by simp)) F4 (Ex.refl F4) _ fun tp F5 n7 e7 h7 => ?_
    refine cat_at (ex_t e7 ht4) (st_of h7) (by simp) (by simp only [pathV, List.length_map, List.length_cons, List.length_nil]; omega) fun tt F6 e8 h8 => ?_
    refine ea_at (ev_var rfl) fun F7 e9 => ea_at (ev_var rfl) fun F8 e10 => ea_at (ev_var rfl) fun F9 e11 => ?_
    have e49 := (e7.trans e8).trans (e9.trans (e10.trans e11))
    have hsp := varsL_split hen
    have hvp : nd.vars = varsL nd.parts ∧ ns1 = ns := by
      rcases hcase with ⟨z, _⟩ | z
      · rw [z] at hen
        exact nomatch hen
      · exact z
    obtain ⟨hvp1, rfl⟩ := hvp
    have hnd := hvn
    rw [hvp1, hsp] at hnd
    have hn2 := List.nodup_append.mp hnd
    have hn3 := List.nodup_append.mp hn2.2.1
    refine ⟨tt, q, .str (formOf en), u, pt ++ [i], en, without ns1 (varsL (nd.parts.take i)), rfl, by rw [pathV, List.map_append]; exact ex_t (e9.trans (e10.trans e11)) h8, by rw [List.length_append, List.length_cons, List.length_nil]; omega, (hTe.tk tk2).ex e49, hwe, by omega, .inr rfl, e49 _ _ (e56 _ _ hu5), fun y hy => ?_, hn3.1, Nat.le_trans (without_len _ _) hns1, fun F10 b10 h10 => ⟨fun b o nb z => b10 b o nb (e49 _ _ (e56 _ _ (bu b o nb z))), ?_, _, _, _, rfl⟩⟩
    · rw [without_in]
      refine ⟨hv y (by rw [hvp1, hsp]; exact List.mem_append_right _ (List.mem_append_left _ hy)), fun hm => ?_⟩
      exact hn2.2.2 y hm y (List.mem_append_left _ hy) rfl
    · rw [h10, without_two, varsL_take hen]
  · intro σ F' hp
    obtain ⟨bu, hu5, y5, y6, y7, rfl⟩ := hp
    refine hQ F' (fun b o nb z => bu b o nb (e34 _ _ (eF _ _ (bG b o nb (e1 _ _ z))))) ?_
    rw [hu5, List.take_length]
    rcases hcase with ⟨z1, z2⟩ | ⟨z1, z2⟩
    · rw [z1, z2]
      congr 3
      exact without_nil _
    · rw [← z1, z2]

theorem sc_check_expression : FnScope ["variables", "expression", "unused", "row"] ["variables", "expression"] (defScope s_check_expression) := ⟨rfl, rfl, rfl, by decide +kernel, rfl, by decide +kernel, by decide +kernel⟩
theorem ok_check_expression {k : Nat} (D : Df K mg "check_expression" s_check_expression ["variables", "expression"] f fd) (cn : Cl P w K mg base k "_check_node" ["path", "node", "needed", "unused"] (spNode K 30)) : FnG P w K mg base CX0 (k + 1) f fd ["variables", "expression"] spCE := by
  refine df_ok D sc_check_expression (fun vs H Q E h => by obtain ⟨l, p, rows, nd, rfl, _⟩ := h; rfl) (fun cdv A outer s H vs Q E hG hr h => ?_)
  obtain ⟨l, p, rows, nd, rfl, hV, hz, hnd, hT, hw, hs, hv, hvn, hQ⟩ := h
  have ndp := sc_check_expression.nd
  refine ⟨_, (pss_cons (ps_setDc (j := 2) (own := [("row", 3)]) (g := gName 3) (tt := tYes) rfl ndp rfl rfl (sw_dict rfl rfl rfl (by decide +kernel)) (pi_list (pv 0)) (blkOk_by (N := ["variables", "expression", "unused", "row"]) (sc := defScope s_check_expression) (by decide +kernel)) (fun _ _ _ _ _ => pg_name (i := 3) ndp rfl (Or.inl rfl)) (fun _ _ _ _ _ => pts_nil) (fun _ _ _ _ _ => pe_ix (ix_tup : IxR _ (rIxT K)) (pv 3) pe_int (fun _ _ => rfl)) (fun _ _ _ _ _ => pe_bl)) (pss_one (ps_expr (pe_cl cn hG hr rfl (pa_cons (pe_tup pa_nil) (pa_cons (pv 1) (pa_cons pe_non (pa_cons (pv 2) pa_nil)))) (Nat.le_refl _))))), ?_⟩
  obtain ⟨ps, hl, hlen, hrow⟩ := id hV
  have hpl : (ps.map V.ref).length = rows.length := by rw [List.length_map, hlen]
  refine q_raw (?_ : tDc _ _ _ _ _ _ _ _ _)
  refine ⟨_, rfl, l, rfl, ⟨_, sq_of hl⟩, fun Dl nD => ?_⟩
  have nlD : l ≠ Dl := fun z => by rw [← z, hl] at nD; exact nomatch nD
  have exH : ∀ {G : Hp}, Bu Dl H G → Ex H G := fun bu b o q => bu b o (fun z => by rw [z, nD] at q; exact nomatch q) q
  refine dc_walk (n := (ps.map V.ref).length) walk_list (fun i G => Bu Dl H G ∧ G Dl = some (.dK (seenL ((rows.map Row.name).take i)))) ⟨fun b o nb q => by rw [upd_ne nb]; exact q, by rw [upd_same]; rfl⟩ (fun i G _ h => sq_of (h.1 _ _ nlD hl)) ?_ ?_
  · intro i x G G' hi hp hy
    obtain ⟨bu, hD⟩ := hp
    obtain ⟨rfl, hx⟩ := hy
    rw [List.getElem?_map] at hx
    obtain ⟨q, hq, rfl⟩ := Option.map_eq_some_iff.mp hx
    have hir : i < rows.length := by rw [← hpl]; exact hi
    have hri : rows[i]? = some rows[i] := List.getElem?_eq_getElem hir
    obtain ⟨p2, q1, q2⟩ := hrow i rows[i] hri
    rw [hq] at q1
    cases q1
    have hnew : rows[i].name ∉ (rows.map Row.name).take i := fun hm => by
      have h1 : (rows.map Row.name)[i]? = some rows[i].name := by rw [List.getElem?_map, hri]; rfl
      obtain ⟨j, hj1, hj2⟩ := List.getElem_of_mem hm
      rw [List.length_take] at hj1
      rw [List.getElem_take] at hj2
      have := (List.getElem_inj (i := j) (j := i) (h₀ := by omega) (h₁ := by rw [List.length_map]; exact hir) hnd).mp (by rw [hj2, List.getElem_map])
      omega
    have htk : (rows.map Row.name).take (i + 1) = (rows.map Row.name).take i ++ [rows[i].name] := by
      rw [List.take_add_one, List.getElem?_map, hri]
      rfl
    rw [htk, ← seen_put hnew]
    have q3 := exH bu _ _ q2
    refine (⟨rfl, ?_⟩ : _ ∧ _)
    dsimp only [tYes, List.set]
    rw [if_pos rfl]
    refine (ev_op (ev_var rfl) ev_c (rv_ixT (st_of q3) (atI_nat (j := 0) rfl))) G' (Ex.refl G') _ fun G1 e1 => ev_c G1 (Ex.refl G1) _ fun G2 e2 => ⟨_, .inr rows[i].name, rfl, (e1.trans e2) _ _ hD, ?_, fun b o nb z => ?_, upd_same⟩
    · unfold seenL
      rw [List.length_map, List.length_take]
      exact sz_lt (by omega)
    · rw [upd_ne nb]
      exact (e1.trans e2) _ _ (bu b o nb z)
  · intro G hp
    obtain ⟨bu, hD⟩ := hp
    have hrl : (rows.map Row.name).take (ps.map V.ref).length = rows.map Row.name := List.take_of_length_le (by rw [hpl, List.length_map]; exact Nat.le_refl _)
    rw [hrl] at hD
    have eG := exH bu
    refine (?_ : tCall _ _ _ _ _ _ _)
    refine (?_ : tCons _ _ _ _ _)
    refine ea_atU (eu_tup ea_nil (by simp)) fun tp G1 n1 e1 h1 => ea_at (ev_var rfl) fun G2 e2 => ea_at ev_c fun G3 e3 => ea_at (ev_var rfl) fun G4 e4 => ?_
    have e14 := e1.trans (e2.trans (e3.trans e4))
    refine ⟨tp, p, .non, Dl, [], nd, rows.map Row.name, rfl, st_of ((e2.trans (e3.trans e4)) _ _ h1), by simp only [List.length_nil]; omega, hT.ex (eG.trans e14), hw, hs, .inl rfl, e14 _ _ hD, hv, hvn, by rw [List.length_map]; exact hz, fun G5 b5 _ => hQ G5 fun b o z => ?_⟩
    exact b5 b o (fun w => by rw [w, nD] at z; exact nomatch z) (e14 _ _ (eG _ _ z))

theorem sc__add_rows : FnScope ["rows", "path", "node", "places", "at", "part"] ["rows", "path", "node"] (defScope s__add_rows) := ⟨rfl, rfl, rfl, by decide +kernel, rfl, by decide +kernel, by decide +kernel⟩
theorem step__add_rows {d k : Nat} (D : Df K mg "_add_rows" s__add_rows ["rows", "path", "node"] f fd) (hk1 : 1 ≤ k) (cp : Cl P w K mg base 1 "parts" ["node"] spParts) (cen : mg "enumerate" = none) (cle : mg "len" = none) (cs : Cl P w K mg base k "_add_rows" ["rows", "path", "node"] (spAddRows K d)) : FnG P w K mg base CX0 (k + 1) f fd ["rows", "path", "node"] (spAddRows K (d + 1)) := by
  refine df_ok D sc__add_rows (fun vs H Q E h => by obtain ⟨l, t, p, nd, pt, its, X, rfl, _⟩ := h; rfl) (fun cdv A outer s H vs Q E hG hr h => ?_)
  obtain ⟨l, t, p, nd, pt, its, X, rfl, hT, hsz, hs60, ht, hpt, hits, hR, hX, hQ⟩ := h
  have ndp := sc__add_rows.nd
  refine ⟨_, (pss_cons (ps_set (i := 3) ndp rfl (.inl rfl) (pe_lst pa_nil)) (pss_cons (ps_for PassesOwn.never rfl (pi_enum (by rfl) cen (pa_cons (pe_cl cp hG hr rfl (pa_cons (pv 2) pa_nil) hk1) pa_nil)) (pg_tup rfl (pgs_cons (pg_name (i := 4) ndp rfl (.inl rfl)) (pgs_cons (pg_name (i := 5) ndp rfl (.inl rfl)) pgs_nil)))
        (pss_one (ps_expr (pe_bm PySem.F.plainAttrs_list PySem.F.slot_list_append PySem.F.type_list_append mt_append (pv 3) (pa_cons (pe_cl cs hG hr rfl (pa_cons (pv 0) (pa_cons (pe_op op_catA (pv 1) (pe_tup (pa_cons (pv 4) pa_nil))) (pa_cons (pv 5) pa_nil))) (Nat.le_refl _)) pa_nil))))) (pss_cons (ps_expr (pe_bm PySem.F.plainAttrs_list PySem.F.slot_list_append PySem.F.type_list_append mt_append (pv 0) (pa_cons (pe_tup (pa_cons (pv 1) (pa_cons (pv 2) (pa_cons (pv 3) pa_nil)))) pa_nil))) (pss_one (ps_ret (pe_op op_sub (pe_callB call_len_seq (by rfl) cle PySem.boot_len (pa_cons (pv 0) pa_nil)) pe_int)))))), ?_⟩
  refine q_raw (lst_raw (?_ : tNil _ _ _))
  refine (⟨by show 0 ≤ sizeLine; decide, fun pl npl => ?_⟩ : _ ∧ _)
  have e2 : Ex H (upd H pl (.lst [])) := Ex.new npl
  have hl2 : (upd H pl (.lst [])) pl = some (.lst (natsV [])) := upd_same
  generalize upd H pl (.lst []) = H2 at e2 hl2 ⊢
  dsimp only [List.set]
  refine (ev_var (v := .ref p) rfl) H2 (Ex.refl H2) _ fun H3 e3 => ⟨p, nd, rfl, hT.ex (e2.trans e3), fun lq qs H4 n4 e4 h4 hP => ?_⟩
  have e24 := e3.trans e4
  have e04 := e2.trans e24
  have hl4 := e24 _ _ hl2
  obtain ⟨hPl, hPa⟩ := hP.at
  obtain ⟨ps0, hl0, hlen0, _⟩ := id hR
  have hlr4 := e04 _ _ hl0
  have nlp : l ≠ pl := fun z => by rw [z, npl] at hl0; exact nomatch hl0
  have nql : lq ≠ l := fun z => by rw [z, e3 _ _ (e2 _ _ hl0)] at n4; exact nomatch n4
  have nqp : lq ≠ pl := fun z => by rw [z, e3 _ _ hl2] at n4; exact nomatch n4
  have hlenq : (qs.map V.ref).length = nd.parts.length := by rw [List.length_map, hPl]
  have nX : ¬ X pl := fun z => hX pl z npl
  have hs1 := size_sum nd
  refine ⟨lq, qs.map V.ref, rfl, sq_of h4, for_it (n := (qs.map V.ref).length) walk_enum (fun i σ G => (∀ b o, b ≠ l → b ≠ pl → H4 b = some o → G b = some o) ∧ G pl = some (.lst (natsV ((List.range i).map (plF nd.parts its.length)))) ∧ RowsAt K G l (its ++ rowsP d nd pt its.length i) (fun x => x = pl ∨ X x) ∧ ∃ y4 y5, σ = [some (.ref l), some (.ref t), some (.ref p), some (.ref pl), y4, y5])
    ⟨fun b o _ _ q => q, hl4, ?_, none, none, rfl⟩ (fun i σ G _ h => sq_of (h.1 _ _ nql nqp h4)) ?_ ?_⟩
  · have : its ++ rowsP d nd pt its.length 0 = its := by simp [rowsP]
    rw [this]
    exact (hR.sub fun r h1 h2 h3 => by
      rcases h3 with h3 | h3
      · exact h1 (by rw [h3]; exact npl)
      · exact h2 h3).ex e04
  · intro i x σ G G' hi hp hy
    obtain ⟨bu, hD, hA, y4, y5, rfl⟩ := hp
    obtain ⟨T, x4, x5, rfl, hTn, rfl, h5, h6⟩ := hy
    cases h5
    have h6 : (qs.map V.ref)[i]? = some x5 := h6
    rw [List.getElem?_map] at h6
    obtain ⟨q, hq, rfl⟩ := Option.map_eq_some_iff.mp h6
    obtain ⟨en, hen, hTe⟩ := hPa i q hq
    have hip : i < nd.parts.length := by rw [← hlenq]; exact hi
    have eT : Ex G (upd G T (.tup [.int (i : Nat), .ref q])) := Ex.new hTn
    have hT2 : (upd G T (.tup [.int (i : Nat), .ref q])) T = some (.tup [.int (i : Nat), .ref q]) := upd_same
    generalize upd G T (.tup [.int (i : Nat), .ref q]) = G5 at eT hT2 ⊢
    refine ⟨T, _, rfl, st_of hT2, rfl, _, _, rfl, _, _, rfl, rfl, ?_⟩
    dsimp only [List.set]
    refine (?_ : tBM _ _ _ _ _ _ _ _)
    refine app_raw (i := 3) rfl (eT _ _ hD) (?_ : tCons _ _ _ _ _)
    refine (?_ : tCall _ _ _ _ _ _ _)
    refine ea_at (ev_var rfl) fun G6 e6 => ?_
    refine (?_ : tCons _ _ _ _ _)
    refine (?_ : tOp _ _ _ _ _ _)
    refine op_raw ⟨_, rfl, ?_⟩
    refine (eu_tup (ea_cons (ev_var rfl) ea_nil) (by simp)) G6 (Ex.refl G6) _ fun tp G7 n7 e7 h7 => ?_
    have h2 := sum_take nd.parts i en hen
    have h3 := sum_le nd.parts (i + 1)
    have e57 := eT.trans (e6.trans e7)
    have tkG : TupK H4 G := fun b xs h => bu b _ (fun z => by rw [z, hlr4] at h; exact nomatch h) (fun z => by rw [z, hl4] at h; exact nomatch h) h
    have htG : SqT K G t (pathV pt) := by
      rcases ex_t e04 ht with (h | ⟨o, h⟩) | h
      · exact .inl (.inl (bu _ _ (ne_of h hlr4 fun z => by cases z) (ne_of h hl4 fun z => by cases z) h))
      · exact .inl (.inr ⟨o, bu _ _ (ne_of h hlr4 fun z => by cases z) (ne_of h hl4 fun z => by cases z) h⟩)
      · exact .inr h
    refine cat_at (ex_t e57 htG) (st_of h7) (by simp) (by simp only [pathV, List.length_map, List.length_cons, List.length_nil]; omega) fun tt G8 e8 h8 => ?_
    have e58 := e57.trans e8
    refine ea_at (ev_var rfl) fun G8b e8b => ?_
    have e58b := e58.trans e8b
    have hln : (its ++ rowsP d nd pt its.length i).length = its.length + sumSz (nd.parts.take i) := by rw [List.length_append, rowsP_len hsz i (by omega)]
    refine ⟨l, tt, q, en, pt ++ [i], its ++ rowsP d nd pt its.length i, (fun x => x = pl ∨ X x), rfl, (hTe.tk tkG).ex e58b, by omega, by omega, by rw [pathV, List.map_append]; exact ex_t e8b h8, by rw [List.length_append, List.length_cons, List.length_nil]; omega, by rw [hln]; omega, hA.ex e58b, ?_, fun G9 b9 hA9 => ?_⟩
    · intro x hx
      rcases hx with rfl | hx
      · rw [e58b _ _ hD]
        exact fun z => nomatch z
      · obtain ⟨o, ho⟩ : ∃ o, H x = some o := by
          cases hq : H x with
          | none => exact absurd hq (hX x hx)
          | some o => exact ⟨o, rfl⟩
        by_cases hxl : x = l
        · obtain ⟨psA, hlA, _⟩ := id hA
          rw [hxl, e58b _ _ hlA]
          exact fun z => nomatch z
        · rw [e58b _ _ (bu x o hxl (fun z => nX (by rw [← z]; exact hx)) (e04 _ _ ho))]
          exact fun z => nomatch z
    · have hD9 := b9 _ _ (Ne.symm nlp) (e58b _ _ hD)
      have hval : its.length + sumSz (nd.parts.take i) + en.size - 1 = plF nd.parts its.length i := by
        unfold plF
        rw [h2]
        omega
      refine ⟨pl, natsV ((List.range i).map (plF nd.parts its.length)), _, rfl, rfl, hD9, ?_, ?_⟩
      · simp only [natsV, List.length_map, List.length_range]
        have h33 : nd.parts.length ≤ 3 := by cases nd <;> simp [Nd.parts]
        exact sz_lt (by omega)
      · have hnew : natsV ((List.range i).map (plF nd.parts its.length)) ++ [V.int (((its ++ rowsP d nd pt its.length i).length + en.size - 1 : Nat) : Int)] = natsV ((List.range (i + 1)).map (plF nd.parts its.length)) := by
          rw [List.range_succ, List.map_append, hln, hval]
          simp [natsV]
        rw [hnew]
        have hA9' : RowsAt K G9 l (its ++ rowsP d nd pt its.length (i + 1)) (fun x => x = pl ∨ X x) := by
          rw [rowsP_step hen, ← List.append_assoc, ← hln]
          exact hA9
        refine ⟨fun b o nb nb2 z => ?_, upd_same, hA9'.bu hD9 (Ne.symm nlp) (.inl rfl) (fun b o nb z => by rw [upd_ne nb]; exact z), _, _, rfl⟩
        rw [upd_ne nb2]
        exact b9 _ _ nb (e58b _ _ (bu b o nb nb2 z))
  · intro σ G hp
    obtain ⟨bu, hD, hA, y4, y5, rfl⟩ := hp
    rw [hlenq] at hD hA
    obtain ⟨psA, hlA, hlenA, _⟩ := id hA
    dsimp only
    refine drop_raw (?_ : tBM _ _ _ _ _ _ _ _)
    refine app_raw (i := 0) rfl hlA (?_ : tCons _ _ _ _ _)
    refine ea_atU (eu_tup (ea_cons (ev_var rfl) (ea_cons (ev_var rfl) (ea_cons (ev_var rfl) ea_nil))) (by simp)) fun a G2 na ea ha => ?_
    have hA2 := hA.ex ea
    have hlA2 := ea _ _ hlA
    have tkG : TupK H4 G := fun b xs h => bu b _ (fun z => by rw [z, hlr4] at h; exact nomatch h) (fun z => by rw [z, hl4] at h; exact nomatch h) h
    have htG : SqT K G t (pathV pt) := by
      rcases ex_t e04 ht with (h | ⟨o, h⟩) | h
      · exact .inl (.inl (bu _ _ (ne_of h hlr4 fun z => by cases z) (ne_of h hl4 fun z => by cases z) h))
      · exact .inl (.inr ⟨o, bu _ _ (ne_of h hlr4 fun z => by cases z) (ne_of h hl4 fun z => by cases z) h⟩)
      · exact .inr h
    have hlnA : psA.length = its.length + nd.size - 1 := by
      rw [hlenA, List.length_append, rowsP_len hsz _ (Nat.le_refl _), List.take_length]
      omega
    have hEnd := (hA2.sub (Y := X) fun r _ h1 h2 => h1 (.inr h2)).add hlA2 ha (ex_t ea htG) (((hT.ex e04).tk tkG).ex ea) (ea _ _ hD) nX (Ne.symm nlp)
    rw [List.append_assoc, ← rowsF_end] at hEnd
    refine (⟨l, psA.map V.ref, .ref a, rfl, rfl, hlA2, by rw [List.length_map, hlnA]; exact sz_lt (by omega), ?_⟩)
    have hlE : (upd G2 l (.lst (psA.map V.ref ++ [.ref a]))) l = some (.lst (psA.map V.ref ++ [.ref a])) := upd_same
    have buE : Bu l H (upd G2 l (.lst (psA.map V.ref ++ [.ref a]))) := fun b o nb z => by
      rw [upd_ne nb]
      exact ea _ _ (bu b o nb (fun w => by rw [w, npl] at z; exact nomatch z) (e04 _ _ z))
    generalize upd G2 l (.lst (psA.map V.ref ++ [.ref a])) = G3 at hEnd hlE buE ⊢
    have hlz : (psA.map V.ref ++ [V.ref a]).length = its.length + nd.size := by
      rw [List.length_append, List.length_map, hlnA]
      simp only [List.length_cons, List.length_nil]
      omega
    refine s_ret (ev_op (x := .int ((psA.map V.ref ++ [V.ref a]).length : Nat)) (ev_cb (ea_cons (ev_var rfl) ea_nil) fun H5 e5 Q1 q1 => ⟨l, _, rfl, .inl (sq_of (e5 _ _ hlE)), q1 H5 (Ex.refl H5)⟩) ev_c rv_I0) fun H6 e6 => ?_
    have := hQ H6 (fun b o nb z => e6 _ _ (buE b o nb z)) (hEnd.ex e6)
    rw [hlz]
    have hz : (((its.length + nd.size : Nat) : Int) - 1) = ((its.length + nd.size - 1 : Nat) : Int) := by omega
    rw [hz]
    exact this

theorem sc_rows_of : FnScope ["expression", "rows"] ["expression"] (defScope s_rows_of) := ⟨rfl, rfl, rfl, by decide +kernel, rfl, by decide +kernel, by decide +kernel⟩
theorem ok_rows_of {k : Nat} (D : Df K mg "rows_of" s_rows_of ["expression"] f fd) (cs : Cl P w K mg base k "_add_rows" ["rows", "path", "node"] (spAddRows K 30)) : FnG P w K mg base CX0 (k + 1) f fd ["expression"] (spRows K) := by
  refine df_ok D sc_rows_of (fun vs H Q E h => by obtain ⟨p, nd, X, rfl, _⟩ := h; rfl) (fun cdv A outer s H vs Q E hG hr h => ?_)
  obtain ⟨p, nd, X, rfl, hT, hsz, hX, hQ⟩ := h
  have ndp := sc_rows_of.nd
  refine ⟨_, (pss_cons (ps_set (i := 1) ndp rfl (.inl rfl) (pe_lst pa_nil)) (pss_cons (ps_expr (pe_cl cs hG hr rfl (pa_cons (pv 1) (pa_cons (pe_tup pa_nil) (pa_cons (pv 0) pa_nil))) (Nat.le_refl _))) (pss_one (ps_ret (pv 1))))), ?_⟩
  refine q_raw (lst_raw (?_ : tNil _ _ _))
  refine (⟨by show 0 ≤ sizeLine; decide, fun l nl => ?_⟩ : _ ∧ _)
  have e2 : Ex H (upd H l (.lst [])) := Ex.new nl
  have hl2 : (upd H l (.lst [])) l = some (.lst []) := upd_same
  generalize upd H l (.lst []) = H2 at e2 hl2 ⊢
  try dsimp only [List.set]
  refine drop_raw (?_ : tCall _ _ _ _ _ _ _)
  refine ea_at (ev_var rfl) fun H3 e3 => ?_
  refine (?_ : tCons _ _ _ _ _)
  refine ea_atU (eu_tup ea_nil (by simp)) fun tp H4 n4 e4 h4 => ea_at (ev_var rfl) fun H5 e5 => ?_
  have e25 := e3.trans (e4.trans e5)
  refine ⟨l, tp, p, nd, [], [], X, rfl, hT.ex (e2.trans e25), hsz, by omega, ex_t e5 (st_of h4), by simp only [List.length_nil]; omega, by simp only [List.length_nil]; omega, ⟨[], e25 _ _ hl2, rfl, fun j it h => nomatch h⟩, fun x h => some_ex (e2.trans e25) (hX x h), fun H6 b6 hA => ?_⟩
  refine s_ret (ev_var rfl) fun H7 e7 => hQ l H7 nl (fun b o z => e7 _ _ (b6 b o (fun w => by rw [w, nl] at z; exact nomatch z) (e25 _ _ (e2 _ _ z)))) (hA.ex e7)

theorem sc_check_values : FnScope ["variables", "values", "name", "_", "low", "high"] ["variables", "values"] (defScope s_check_values) := ⟨rfl, rfl, rfl, by decide +kernel, rfl, by decide +kernel, by decide +kernel⟩
theorem ok_check_values (D : Df K mg "check_values" s_check_values ["variables", "values"] f fd) : FnG P w K mg base CX0 1 f fd ["variables", "values"] spCVal := by
  refine df_ok D sc_check_values (fun vs H Q E h => by obtain ⟨l, dv, rows, kvs, g, rfl, _⟩ := h; rfl) (fun cdv A outer s H vs Q E hG hr h => ?_)
  obtain ⟨l, dv, rows, kvs, g, rfl, hV, hd, hok, hQ⟩ := h
  have ndp := sc_check_values.nd
  have hu := hu_of hr
  refine ⟨_, (pss_one (ps_for PassesOwn.never rfl (pi_list (pv 0)) (pg_tup rfl (pgs_cons (pg_name (i := 2) ndp rfl (.inl rfl)) (pgs_cons (pg_name (i := 3) ndp rfl (.inl rfl)) (pgs_cons (pg_name (i := 4) ndp rfl (.inl rfl)) (pgs_cons (pg_name (i := 5) ndp rfl (.inl rfl)) pgs_nil)))))
        (pss_one (ps_if (PW.pt (pw_or (pt_cmp (pc_dnotin hu (pv 2) (pv 1)) rfl) (pw_or1 (pt_not (pt_chain op_le op_le (pv 4) (pe_dget hu (pv 1) (pv 2) (fun _ _ => rfl)) (pv 5)))))) (pss_one ps_never) pss_nil)))), ?_⟩
  obtain ⟨ps, hl, hlen, hrow⟩ := id hV
  refine (?_ : tFor _ _ _ _ _ _)
  refine ⟨_, rfl, l, rfl, ⟨_, sq_of hl⟩, for_list (xs := ps.map V.ref) (fun i σ G => Ex H G ∧ ∃ y2 y3 y4 y5, σ = [some (.ref l), some (.ref dv), y2, y3, y4, y5]) ⟨Ex.refl H, none, none, none, none, rfl⟩ (fun i σ G _ h => ex_l h.1 (sq_of hl)) ?_ ?_⟩
  · intro i x σ G hx hp
    obtain ⟨e, y2, y3, y4, y5, rfl⟩ := hp
    rw [List.getElem?_map] at hx
    obtain ⟨q, hq, rfl⟩ := Option.map_eq_some_iff.mp hx
    have hi : i < rows.length := by
      have := (List.getElem?_eq_some_iff.mp hq).1
      rw [hlen] at this
      exact this
    have hri : rows[i]? = some rows[i] := List.getElem?_eq_getElem hi
    obtain ⟨p2, q1, q2⟩ := hrow i rows[i] hri
    rw [hq] at q1
    cases q1
    obtain ⟨k1, k2, k3⟩ := hok _ (List.mem_of_getElem? hri)
    generalize rows[i] = wr at q2 k1 k2 k3
    refine ⟨q, _, rfl, st_of (e _ _ q2), rfl, _, _, rfl, _, _, rfl, _, _, rfl, _, _, rfl, rfl, ?_⟩
    dsimp only [List.set]
    refine s_when (b := false) (et_or (a := false) (b := false) (et_is (et_B (ev_dnotinK (ev_var rfl) (ev_var rfl) (e _ _ hd) k1)) rfl) (fun _ => et_is (et_not (et_test (ev_chLe (ev_var rfl) (ev_dgetV (ev_var rfl) (ev_var rfl) (e _ _ hd) k1) (ev_var rfl)))) (by rw [decide_eq_true ⟨k2, k3⟩]; rfl))) (fun z => nomatch z) (fun _ G1 e1 => ⟨e.trans e1, _, _, _, _, rfl⟩)
  · intro σ G hp
    exact hQ G hp.1

theorem sc__exact_pair : FnScope ["word", "first", "second"] ["word", "first", "second"] (defScope s__exact_pair) := ⟨rfl, rfl, rfl, by decide +kernel, rfl, by decide +kernel, by decide +kernel⟩
theorem ok__exact_pair (D : Df K mg "_exact_pair" s__exact_pair ["word", "first", "second"] f fd) : FnG P w K mg base CX0 1 f fd ["word", "first", "second"] (PV preEP) := by
  refine df_ok D sc__exact_pair (pre_len1 fun vs H v h => by obtain ⟨g, nd, e, f, rfl, _⟩ := h; rfl) (fun cdv A outer s H vs Q E hG hr h => ?_)
  obtain ⟨v, ⟨g, nd, e, f2, rfl, hp, hw, hs, hg, rfl⟩, hQ⟩ := h
  refine ⟨_, (pss_cons (ps_if (pt_cmpR op_eq (pv 0) pe_str (nomark _)) (pss_one (ps_ret (pe_op op_add (pv 1) (pv 2)))) pss_nil) (pss_cons (ps_if (pt_cmpR op_eq (pv 0) pe_str (nomark _)) (pss_one (ps_ret (pe_op op_sub (pv 1) (pv 2)))) pss_nil) (pss_cons (ps_if (pt_cmpR op_eq (pv 0) pe_str (nomark _)) (pss_one (ps_ret (pe_op op_mulW (pv 1) (pv 2)))) pss_nil) (pss_cons (ps_if (pt_cmpR op_eq (pv 0) pe_str (nomark _)) (pss_one (ps_ret (pe_cmpR op_lt (pv 1) (pv 2) (nomark _)))) pss_nil) (pss_cons (ps_if (pt_cmpR op_eq (pv 0) pe_str (nomark _)) (pss_one (ps_ret (pe_cmpR op_le (pv 1) (pv 2) (nomark _)))) pss_nil) (pss_cons (ps_if (pt_cmpR op_eq (pv 0) pe_str (nomark _)) (pss_one (ps_ret (pe_and (pv 1) (pe_one (pv 2))))) pss_nil) (pss_one (ps_ret (pe_or (pv 1) (pe_one (pv 2))))))))))), ?_⟩
  have eqT : ∀ {G : Hp} {x y : V} {c : Str}, nd.word = c → EvT (tTest (tOp rEq (tVar 0) (tC (.str c)))) [some (.str nd.word), some x, some y] G true := fun h => et_is (et_test (ev_op (ev_var rfl) ev_c (rv_eq rfl))) (decide_eq_true (by rw [h]))
  have eqF : ∀ {G : Hp} {x y : V} {c : Str}, nd.word ≠ c → EvT (tTest (tOp rEq (tVar 0) (tC (.str c)))) [some (.str nd.word), some x, some y] G false := fun h => et_is (et_test (ev_op (ev_var rfl) ev_c (rv_eq rfl))) (decide_eq_false fun z => h (V.str.inj z))
  match nd, hp, hw, hs, @eqT, @eqF, hQ with
  | .bin .add _ _, hp, hw, hs, eqT, eqF, hQ =>
    cases (Option.some.inj hp)
    rw [exV_E hw.1, exV_E hw.2.1]
    exact q_when (eqT rfl) (fun _ H1 e1 => s_ret (ev_op (ev_var rfl) (ev_var rfl) rv_I0) fun H2 e2 => hQ H2 (e1.trans e2)) (fun z => nomatch z)
  | .bin .sub _ _, hp, hw, hs, eqT, eqF, hQ =>
    cases (Option.some.inj hp)
    rw [exV_E hw.1, exV_E hw.2.1]
    refine q_when (eqF (by show ("sub" : Str) ≠ "add"; decide)) (fun z => nomatch z) (fun _ H1 e1 => ?_)
    exact q_when (eqT rfl) (fun _ H2 e2 => s_ret (ev_op (ev_var rfl) (ev_var rfl) rv_I0) fun H3 e3 => hQ H3 (e1.trans (e2.trans e3))) (fun z => nomatch z)
  | .bin .mul _ _, hp, hw, hs, eqT, eqF, hQ =>
    cases (Option.some.inj hp)
    rw [exV_E hw.1, exV_E hw.2.1]
    have b1 := num_bound hg hw.2.2.1
    have b2 := num_bound hg hw.2.2.2
    have z1 : (0 : Nat) < e.size ∧ 0 < f2.size := by
      have h1 := size_sum e
      have h2 := size_sum f2
      omega
    have z2 : 1 + e.size + f2.size ≤ 30 := hs
    refine q_when (eqF (by show ("mul" : Str) ≠ "add"; decide)) (fun z => nomatch z) (fun _ H1 e1 => ?_)
    refine q_when (eqF (by show ("mul" : Str) ≠ "sub"; decide)) (fun z => nomatch z) (fun _ H2 e2 => ?_)
    exact q_when (eqT rfl) (fun _ H3 e3 => s_ret (ev_op (ev_var rfl) (ev_var rfl) (rv_I (wide_mul b1 b2 (by omega) (by omega) (by omega)))) fun H4 e4 => hQ H4 ((e1.trans e2).trans (e3.trans e4))) (fun z => nomatch z)
  | .cmp true _ _, hp, hw, hs, eqT, eqF, hQ =>
    cases (Option.some.inj hp)
    rw [exV_E hw.1, exV_E hw.2.1]
    refine q_when (eqF (by show ("less" : Str) ≠ "add"; decide)) (fun z => nomatch z) (fun _ H1 e1 => ?_)
    refine q_when (eqF (by show ("less" : Str) ≠ "sub"; decide)) (fun z => nomatch z) (fun _ H2 e2 => ?_)
    refine q_when (eqF (by show ("less" : Str) ≠ "mul"; decide)) (fun z => nomatch z) (fun _ H3 e3 => ?_)
    exact q_when (eqT rfl) (fun _ H4 e4 => s_ret (ev_op (ev_var rfl) (ev_var rfl) rv_I0) fun H5 e5 => hQ H5 (((e1.trans e2).trans e3).trans (e4.trans e5))) (fun z => nomatch z)
  | .cmp false _ _, hp, hw, hs, eqT, eqF, hQ =>
    cases (Option.some.inj hp)
    rw [exV_E hw.1, exV_E hw.2.1]
    refine q_when (eqF (by show ("most" : Str) ≠ "add"; decide)) (fun z => nomatch z) (fun _ H1 e1 => ?_)
    refine q_when (eqF (by show ("most" : Str) ≠ "sub"; decide)) (fun z => nomatch z) (fun _ H2 e2 => ?_)
    refine q_when (eqF (by show ("most" : Str) ≠ "mul"; decide)) (fun z => nomatch z) (fun _ H3 e3 => ?_)
    refine q_when (eqF (by show ("most" : Str) ≠ "less"; decide)) (fun z => nomatch z) (fun _ H4 e4 => ?_)
    exact q_when (eqT rfl) (fun _ H5 e5 => s_ret (ev_op (ev_var rfl) (ev_var rfl) rv_I0) fun H6 e6 => hQ H6 (((e1.trans e2).trans (e3.trans e4)).trans (e5.trans e6))) (fun z => nomatch z)
  | .lg true _ _, hp, hw, hs, eqT, eqF, hQ =>
    cases (Option.some.inj hp)
    rw [exV_C hw.1, exV_C hw.2.1]
    refine q_when (eqF (by show ("and" : Str) ≠ "add"; decide)) (fun z => nomatch z) (fun _ H1 e1 => ?_)
    refine q_when (eqF (by show ("and" : Str) ≠ "sub"; decide)) (fun z => nomatch z) (fun _ H2 e2 => ?_)
    refine q_when (eqF (by show ("and" : Str) ≠ "mul"; decide)) (fun z => nomatch z) (fun _ H3 e3 => ?_)
    refine q_when (eqF (by show ("and" : Str) ≠ "less"; decide)) (fun z => nomatch z) (fun _ H4 e4 => ?_)
    refine q_when (eqF (by show ("and" : Str) ≠ "most"; decide)) (fun z => nomatch z) (fun _ H5 e5 => ?_)
    exact q_when (eqT rfl) (fun _ H6 e6 => s_ret (ev_andV (ev_var rfl) fun _ => ev_var rfl) fun H7 e7 => hQ H7 (((e1.trans e2).trans (e3.trans e4)).trans (e5.trans (e6.trans e7)))) (fun z => nomatch z)
  | .lg false _ _, hp, hw, hs, eqT, eqF, hQ =>
    cases (Option.some.inj hp)
    rw [exV_C hw.1, exV_C hw.2.1]
    refine q_when (eqF (by show ("or" : Str) ≠ "add"; decide)) (fun z => nomatch z) (fun _ H1 e1 => ?_)
    refine q_when (eqF (by show ("or" : Str) ≠ "sub"; decide)) (fun z => nomatch z) (fun _ H2 e2 => ?_)
    refine q_when (eqF (by show ("or" : Str) ≠ "mul"; decide)) (fun z => nomatch z) (fun _ H3 e3 => ?_)
    refine q_when (eqF (by show ("or" : Str) ≠ "less"; decide)) (fun z => nomatch z) (fun _ H4 e4 => ?_)
    refine q_when (eqF (by show ("or" : Str) ≠ "most"; decide)) (fun z => nomatch z) (fun _ H5 e5 => ?_)
    refine q_when (eqF (by show ("or" : Str) ≠ "and"; decide)) (fun z => nomatch z) (fun _ H6 e6 => ?_)
    exact s_ret (ev_orV (ev_var rfl) fun _ => ev_var rfl) fun H7 e7 => hQ H7 (((e1.trans e2).trans (e3.trans e4)).trans (e5.trans (e6.trans e7)))
  | .var _, hp, _, _, _, _, _ => exact nomatch hp
  | .lit _ _, hp, _, _, _, _, _ => exact nomatch hp
  | .cast _ _, hp, _, _, _, _, _ => exact nomatch hp
  | .neg _, hp, _, _, _, _, _ => exact nomatch hp
  | .sh _ _ _, hp, _, _, _, _, _ => exact nomatch hp
  | .ite _ _ _, hp, _, _, _, _, _ => exact nomatch hp
  | .nt _, hp, _, _, _, _, _ => exact nomatch hp

theorem sc_exact : FnScope ["node", "of_parts", "word"] ["node", "of_parts"] (defScope s_exact) := ⟨rfl, rfl, rfl, by decide +kernel, rfl, by decide +kernel, by decide +kernel⟩
theorem ok_exact (D : Df K mg "exact" s_exact ["node", "of_parts"] f fd) (ce : Cl P w K mg base 1 "_exact_pair" ["word", "first", "second"] (PV preEP)) : FnG P w K mg base CX0 2 f fd ["node", "of_parts"] (PV (preEx K)) := by
  refine df_ok D sc_exact (pre_len1 fun vs H v h => by obtain ⟨q, ol, g, nd, rfl, _⟩ := h; rfl) (fun cdv A outer s H vs Q E hG hr h => ?_)
  obtain ⟨v, ⟨q, ol, g, nd, rfl, hT, hw, hs, hn, hg, hl, rfl⟩, hQ⟩ := h
  have ndp := sc_exact.nd
  refine ⟨_, (pss_cons (ps_set (i := 2) ndp rfl (.inl rfl) (pe_ix ix_tup (pv 0) pe_int (fun _ _ => rfl))) (pss_cons (ps_if (pt_cmpR op_eq (pv 2) pe_str (nomark _)) (pss_one (ps_ret (pe_ix ix_tup (pv 0) pe_int (fun _ _ => rfl)))) pss_nil) (pss_cons (ps_if (pt_cmpR op_eq (pv 2) pe_str (nomark _)) (pss_one (ps_ret (pe_ix ix_list (pv 1) pe_int (fun _ _ => rfl)))) pss_nil) (pss_cons (ps_if (pt_cmpR op_eq (pv 2) pe_str (nomark _)) (pss_one (ps_ret (pe_un un_neg (pe_ix ix_list (pv 1) pe_int (fun _ _ => rfl))))) pss_nil) (pss_cons (ps_if (pt_cmpR op_eq (pv 2) pe_str (nomark _)) (pss_one (ps_ret (pe_op op_shlW (pe_ix ix_list (pv 1) pe_int (fun _ _ => rfl)) (pe_ix ix_tup (pv 0) pe_int (fun _ _ => rfl))))) pss_nil) (pss_cons (ps_if (pt_cmpR op_eq (pv 2) pe_str (nomark _)) (pss_one (ps_ret (pe_op op_shr (pe_ix ix_list (pv 1) pe_int (fun _ _ => rfl)) (pe_ix ix_tup (pv 0) pe_int (fun _ _ => rfl))))) pss_nil) (pss_cons (ps_if (pt_cmpR op_eq (pv 2) pe_str (nomark _)) (pss_one (ps_ret (pe_not (pe_ix ix_list (pv 1) pe_int (fun _ _ => rfl))))) pss_nil) (pss_cons (ps_if (pt_cmpR op_eq (pv 2) pe_str (nomark _)) (pss_one (ps_ret (pe_ifExp (pt_val (pe_ix ix_list (pv 1) pe_int (fun _ _ => rfl))) (pe_ix ix_list (pv 1) pe_int (fun _ _ => rfl)) (pe_ix ix_list (pv 1) pe_int (fun _ _ => rfl))))) pss_nil) (pss_one (ps_ret (pe_cl ce hG hr rfl (pa_cons (pv 2) (pa_cons (pe_ix ix_list (pv 1) pe_int (fun _ _ => rfl)) (pa_cons (pe_ix ix_list (pv 1) pe_int (fun _ _ => rfl)) pa_nil)))))))))))))), ?_⟩
  obtain ⟨rest, hd⟩ := hT.head
  refine q_asg (v := .str nd.word) (ev_op (ev_var rfl) ev_c (rv_ixT (st_of hd) (atI_nat (j := 0) rfl))) fun H1 e1 => ?_
  dsimp only [List.set]
  have eqT : ∀ {G : Hp} {c : Str}, nd.word = c → EvT (tTest (tOp rEq (tVar 2) (tC (.str c)))) [some (.ref q), some (.ref ol), some (.str nd.word)] G true := fun h => et_is (et_test (ev_op (ev_var rfl) ev_c (rv_eq rfl))) (decide_eq_true (by rw [h]))
  have eqF : ∀ {G : Hp} {c : Str}, nd.word ≠ c → EvT (tTest (tOp rEq (tVar 2) (tC (.str c)))) [some (.ref q), some (.ref ol), some (.str nd.word)] G false := fun h => et_is (et_test (ev_op (ev_var rfl) ev_c (rv_eq rfl))) (decide_eq_false fun z => h (V.str.inj z))
  have ol_ : ∀ {G : Hp} {j : Nat} {v : V}, Ex H G → (nd.parts.map (exV g))[j]? = some v → Ev (tOp (rIxL K) (tVar 1) (tC (.int (j : Nat)))) [some (.ref q), some (.ref ol), some (.str nd.word)] G v := fun e h => ev_op (ev_var rfl) ev_c (rv_ixL (sq_of (e _ _ hl)) (atI_nat h))
  have it_ : ∀ {G : Hp} {j : Nat} {v : V} {xs : List V}, Ex H G → H q = some (.tup xs) → xs[j]? = some v → Ev (tOp (rIxT K) (tVar 0) (tC (.int (j : Nat)))) [some (.ref q), some (.ref ol), some (.str nd.word)] G v := fun e h z => ev_op (ev_var rfl) ev_c (rv_ixT (st_of (e _ _ h)) (atI_nat z))
  refine q_when (b := decide (V.str nd.word = V.str "lit")) (et_test (ev_op (ev_var rfl) ev_c (rv_eq rfl))) (fun hb H2 e2 => ?_) (fun hb H2 e2 => ?_)
  · obtain ⟨n, sf, rfl⟩ := word_lit (V.str.inj (of_decide_eq_true hb))
    exact s_ret (it_ (j := 1) (e1.trans e2) hT rfl) fun H3 e3 => hQ H3 ((e1.trans e2).trans e3)
  have n1 : nd.word ≠ "lit" := fun z => of_decide_eq_false hb (by rw [z])
  have e12 := e1.trans e2
  refine q_when (b := decide (V.str nd.word = V.str "cast")) (et_test (ev_op (ev_var rfl) ev_c (rv_eq rfl))) (fun hb H3 e3 => ?_) (fun hb H3 e3 => ?_)
  · obtain ⟨k, e, rfl⟩ := word_cast (V.str.inj (of_decide_eq_true hb))
    refine s_ret (ol_ (j := 0) (e12.trans e3) rfl) fun H4 e4 => ?_
    have := hQ H4 (e12.trans (e3.trans e4))
    rw [exV_E (nd := .cast k e) rfl] at this
    rw [exV_E hw.1]
    exact this
  have n2 : nd.word ≠ "cast" := fun z => of_decide_eq_false hb (by rw [z])
  have e13 := e12.trans e3
  refine q_when (b := decide (V.str nd.word = V.str "neg")) (et_test (ev_op (ev_var rfl) ev_c (rv_eq rfl))) (fun hb H4 e4 => ?_) (fun hb H4 e4 => ?_)
  · obtain ⟨e, rfl⟩ := word_neg (V.str.inj (of_decide_eq_true hb))
    refine s_ret (ev_un (ev_is (ol_ (j := 0) (e13.trans e4) rfl) (exV_E hw.1)) ru_neg) fun H5 e5 => ?_
    exact hQ H5 (e13.trans (e4.trans e5))
  have n3 : nd.word ≠ "neg" := fun z => of_decide_eq_false hb (by rw [z])
  have e14 := e13.trans e4
  match nd, hT, hw, hs, hn, n1, n2, n3, hl, @eqT, @eqF, @ol_, @it_, hQ with
  | .sh true e k, ⟨q2, hp, _⟩, hw, hs, _, _, _, _, hl, eqT, eqF, ol_, it_, hQ =>
    have hb := num_bound hg hw.2.1
    have hz : 1 + e.size ≤ 30 := hs
    refine q_when (eqT rfl) (fun _ H5 e5 => ?_) (fun z => nomatch z)
    exact s_ret (ev_op (ev_is (ol_ (j := 0) (e14.trans e5) rfl) (exV_E hw.1)) (it_ (j := 2) (e14.trans e5) hp rfl) (rv_I (shl_ok hb (by omega) hw.2.2.1 hw.2.2.2))) fun H6 e6 => hQ H6 (e14.trans (e5.trans e6))
  | .sh false e k, ⟨q2, hp, _⟩, hw, hs, _, _, _, _, hl, eqT, eqF, ol_, it_, hQ =>
    refine q_when (eqF (by show ("shr" : Str) ≠ "shl"; decide)) (fun z => nomatch z) (fun _ H5 e5 => ?_)
    refine q_when (eqT rfl) (fun _ H6 e6 => ?_) (fun z => nomatch z)
    exact s_ret (ev_op (ev_is (ol_ (j := 0) (e14.trans (e5.trans e6)) rfl) (exV_E hw.1)) (it_ (j := 2) (e14.trans (e5.trans e6)) hp rfl) (rv_I hw.2.2.1)) fun H7 e7 => hQ H7 (e14.trans (e5.trans (e6.trans e7)))
  | .nt c, _, hw, hs, _, _, _, _, hl, eqT, eqF, ol_, it_, hQ =>
    refine q_when (eqF (by show ("not" : Str) ≠ "shl"; decide)) (fun z => nomatch z) (fun _ H5 e5 => ?_)
    refine q_when (eqF (by show ("not" : Str) ≠ "shr"; decide)) (fun z => nomatch z) (fun _ H6 e6 => ?_)
    refine q_when (eqT rfl) (fun _ H7 e7 => ?_) (fun z => nomatch z)
    have e17 := e14.trans (e5.trans (e6.trans e7))
    exact s_ret (ev_notV (ev_is (ol_ (j := 0) e17 rfl) (exV_C hw.1))) fun H8 e8 => hQ H8 (e17.trans e8)
  | .ite c e f2, _, hw, hs, _, _, _, _, hl, eqT, eqF, ol_, it_, hQ =>
    refine q_when (eqF (by show ("if" : Str) ≠ "shl"; decide)) (fun z => nomatch z) (fun _ H5 e5 => ?_)
    refine q_when (eqF (by show ("if" : Str) ≠ "shr"; decide)) (fun z => nomatch z) (fun _ H6 e6 => ?_)
    refine q_when (eqF (by show ("if" : Str) ≠ "not"; decide)) (fun z => nomatch z) (fun _ H7 e7 => ?_)
    refine q_when (eqT rfl) (fun _ H8 e8 => ?_) (fun z => nomatch z)
    have e18 := e14.trans ((e5.trans (e6.trans e7)).trans e8)
    refine s_ret (ev_if (v := exV g (.ite c e f2)) (et_B (ev_is (ol_ (j := 0) e18 rfl) (exV_C hw.1))) (fun hb => ev_is (ol_ (j := 1) (v := exV g e) e18 rfl) ?_) (fun hb => ev_is (ol_ (j := 2) (v := exV g f2) e18 rfl) ?_)) fun H9 e9 => hQ H9 (e18.trans e9)
    · rw [exV_E hw.2.1, exV_E (nd := .ite c e f2) rfl]
      simp only [Nd.num, hb, if_true]
    · rw [exV_E hw.2.2.1, exV_E (nd := .ite c e f2) rfl]
      simp only [Nd.num, hb, Bool.false_eq_true, if_false]
  | .bin o e f2, _, hw, hs, _, _, _, _, hl, eqT, eqF, ol_, it_, hQ =>
    refine q_when (eqF (bin_ne o).1) (fun z => nomatch z) (fun _ H5 e5 => ?_)
    refine q_when (eqF (bin_ne o).2.1) (fun z => nomatch z) (fun _ H6 e6 => ?_)
    refine q_when (eqF (bin_ne o).2.2.1) (fun z => nomatch z) (fun _ H7 e7 => ?_)
    refine q_when (eqF (bin_ne o).2.2.2) (fun z => nomatch z) (fun _ H8 e8 => ?_)
    have e18 := e14.trans ((e5.trans (e6.trans e7)).trans e8)
    exact s_ret (ev_call (ea_cons (ev_var rfl) (ea_cons (ol_ (j := 0) e18 rfl) (ea_cons (ol_ (j := 1) e18 rfl) ea_nil))) (spEP rfl hw hs hg)) fun H9 e9 => hQ H9 (e18.trans e9)
  | .cmp o e f2, _, hw, hs, _, _, _, _, hl, eqT, eqF, ol_, it_, hQ =>
    refine q_when (eqF (cmp_ne o).1) (fun z => nomatch z) (fun _ H5 e5 => ?_)
    refine q_when (eqF (cmp_ne o).2.1) (fun z => nomatch z) (fun _ H6 e6 => ?_)
    refine q_when (eqF (cmp_ne o).2.2.1) (fun z => nomatch z) (fun _ H7 e7 => ?_)
    refine q_when (eqF (cmp_ne o).2.2.2) (fun z => nomatch z) (fun _ H8 e8 => ?_)
    have e18 := e14.trans ((e5.trans (e6.trans e7)).trans e8)
    exact s_ret (ev_call (ea_cons (ev_var rfl) (ea_cons (ol_ (j := 0) e18 rfl) (ea_cons (ol_ (j := 1) e18 rfl) ea_nil))) (spEP rfl hw hs hg)) fun H9 e9 => hQ H9 (e18.trans e9)
  | .lg o e f2, _, hw, hs, _, _, _, _, hl, eqT, eqF, ol_, it_, hQ =>
    refine q_when (eqF (lg_ne o).1) (fun z => nomatch z) (fun _ H5 e5 => ?_)
    refine q_when (eqF (lg_ne o).2.1) (fun z => nomatch z) (fun _ H6 e6 => ?_)
    refine q_when (eqF (lg_ne o).2.2.1) (fun z => nomatch z) (fun _ H7 e7 => ?_)
    refine q_when (eqF (lg_ne o).2.2.2) (fun z => nomatch z) (fun _ H8 e8 => ?_)
    have e18 := e14.trans ((e5.trans (e6.trans e7)).trans e8)
    exact s_ret (ev_call (ea_cons (ev_var rfl) (ea_cons (ol_ (j := 0) e18 rfl) (ea_cons (ol_ (j := 1) e18 rfl) ea_nil))) (spEP rfl hw hs hg)) fun H9 e9 => hQ H9 (e18.trans e9)
  | .var _, _, _, _, hn, _, _, _, _, _, _, _, _, _ => exact absurd rfl hn
  | .lit _ _, _, _, _, _, h, _, _, _, _, _, _, _, _ => exact absurd rfl h
  | .cast _ _, _, _, _, _, _, h, _, _, _, _, _, _, _ => exact absurd rfl h
  | .neg _, _, _, _, _, _, _, h, _, _, _, _, _, _ => exact absurd rfl h

theorem sc_mathematical : FnScope ["variables", "expression", "values", "found", "_", "node", "places", "at"] ["variables", "expression", "values"] (defScope s_mathematical) := ⟨rfl, rfl, rfl, by decide +kernel, rfl, by decide +kernel, by decide +kernel⟩
theorem ok_mathematical {k : Nat} (D : Df K mg "mathematical" s_mathematical ["variables", "expression", "values"] f fd) (hk : 2 ≤ k) (cv : Cl P w K mg base 2 "check_variables" ["variables"] spCV) (ce : Cl P w K mg base k "check_expression" ["variables", "expression"] spCE) (cva : Cl P w K mg base 1 "check_values" ["variables", "values"] spCVal) (cr : Cl P w K mg base k "rows_of" ["expression"] (spRows K)) (cx : Cl P w K mg base 2 "exact" ["node", "of_parts"] (PV (preEx K))) : FnG P w K mg base CX0 (k + 1) f fd ["variables", "expression", "values"] (PV (preMath K)) := by
  refine df_ok D sc_mathematical (pre_len1 fun vs H v h => by obtain ⟨l, p, dv, rows, nd, kvs, g, rfl, _⟩ := h; rfl) (fun cdv A outer s H vs Q E hG hr h => ?_)
  obtain ⟨v, ⟨l, p, dv, rows, nd, kvs, g, rfl, hV, hz, hnm, hnd, hle, hT, hw, hs, hv, hvn, hd, hok, hg, rfl⟩, hQ⟩ := h
  have ndp := sc_mathematical.nd
  have hu := hu_of hr
  have hk1 : 1 ≤ k := by omega
  refine ⟨_, (pss_cons (ps_expr (pe_cl cv hG hr rfl (pa_cons (pv 0) pa_nil) hk)) (pss_cons (ps_expr (pe_cl ce hG hr rfl (pa_cons (pv 0) (pa_cons (pv 1) pa_nil)) (Nat.le_refl _))) (pss_cons (ps_expr (pe_cl cva hG hr rfl (pa_cons (pv 0) (pa_cons (pv 2) pa_nil)) hk1)) (pss_cons (ps_set (i := 3) ndp rfl (.inr rfl) (pe_lst pa_nil)) (pss_cons (ps_for PassesOwn.never rfl (pi_list (pe_cl cr hG hr rfl (pa_cons (pv 1) pa_nil) (Nat.le_refl _))) (pg_tup rfl (pgs_cons (pg_name (i := 4) ndp rfl (.inl rfl)) (pgs_cons (pg_name (i := 5) ndp rfl (.inl rfl)) (pgs_cons (pg_name (i := 6) ndp rfl (.inl rfl)) pgs_nil))))
        (pss_one (ps_if (pt_cmpR op_eq (pe_ix ix_tup (pv 5) pe_int (fun _ _ => rfl)) pe_str (nomark _)) (pss_one (ps_expr (pe_bm PySem.F.plainAttrs_list PySem.F.slot_list_append PySem.F.type_list_append mt_append (pv 3) (pa_cons (pe_dget hu (pv 2) (pe_ix ix_tup (pv 5) pe_int (fun _ _ => rfl)) (fun _ _ => rfl)) pa_nil))))
          (pss_one (ps_expr (pe_bm PySem.F.plainAttrs_list PySem.F.slot_list_append PySem.F.type_list_append mt_append (pv 3) (pa_cons (pe_cl cx hG hr rfl (pa_cons (pv 5) (pa_cons (pe_lc (own := [("at", 7)]) (g := gName 7) (tt := tYes) rfl ndp (pi_list (pv 6)) (blkOk_by (N := ["variables", "expression", "values", "found", "_", "node", "places", "at"]) (sc := defScope s_mathematical) (by decide +kernel)) (fun _ _ _ _ _ => pg_name (i := 7) ndp rfl (Or.inl rfl)) (fun _ _ _ _ _ => pts_nil) (fun _ _ _ _ _ => pe_ix (ix_list : IxR _ (rIxL K)) (pv 3) (pv 7) (fun _ _ => rfl))) pa_nil)) hk) pa_nil))))))) (pss_one (ps_ret (pe_ix ix_list (pv 3) (pe_un un_neg pe_int) (fun _ _ => rfl))))))))), ?_⟩
  refine q_drop (v := .non) (ev_call (ea_cons (ev_var rfl) ea_nil) fun G e Q2 q E2 => ⟨l, rows, rfl, hV.ex e, hz, hnm, hnd, hle, q⟩) fun H1 e1 => ?_
  refine q_drop (v := .non) (ev_call (ea_cons (ev_var rfl) (ea_cons (ev_var rfl) ea_nil)) fun G e Q2 q E2 => ⟨l, p, rows, nd, rfl, hV.ex (e1.trans e), hz, hnd, hT.ex (e1.trans e), hw, hs, hv, hvn, q⟩) fun H2 e2 => ?_
  refine q_drop (v := .non) (ev_call (ea_cons (ev_var rfl) (ea_cons (ev_var rfl) ea_nil)) fun G e Q2 q E2 => ⟨l, dv, rows, kvs, g, rfl, hV.ex ((e1.trans e2).trans e), ((e1.trans e2).trans e) _ _ hd, hok, q⟩) fun H3 e3 => ?_
  have e13 := (e1.trans e2).trans e3
  refine q_raw (lst_raw (?_ : tNil _ _ _))
  refine (⟨by show 0 ≤ sizeLine; decide, fun kl nkl => ?_⟩ : _ ∧ _)
  have e4 : Ex H3 (upd H3 kl (.lst [])) := Ex.new nkl
  have hk1 : (upd H3 kl (.lst [])) kl = some (.lst []) := upd_same
  generalize upd H3 kl (.lst []) = H4 at e4 hk1 ⊢
  dsimp only [List.set]
  refine (?_ : tCall _ _ _ _ _ _ _)
  refine (ea_cons (ev_var rfl) ea_nil) H4 (Ex.refl H4) _ fun H5 e5 => ?_
  have e15 := e13.trans (e4.trans e5)
  refine ⟨p, nd, (fun x => x = kl), rfl, hT.ex e15, hs, (fun x h => by rw [h, e5 _ _ hk1]; exact fun z => nomatch z), fun rl H6 n6 e6 hR => ?_⟩
  have e16 := e15.trans e6
  have hk6 := (e5.trans e6) _ _ hk1
  obtain ⟨ps, hl, hlen, hrow⟩ := id hR
  have nlk : rl ≠ kl := fun z => by rw [z, e5 _ _ hk1] at n6; exact nomatch n6
  have hrok : RowsOk (rowsF 30 nd [] 0) := rows_ok 30 nd [] [] hs (fun j pt nd2 pl h => nomatch h)
  have hall : ∀ it ∈ rowsF 30 nd [] 0, it.2.1.wf ∧ it.2.1.size ≤ 30 ∧ ∀ x ∈ it.2.1.vars, x ∈ rows.map Row.name := rows_all (P := fun n => n.wf ∧ n.size ≤ 30 ∧ ∀ x ∈ n.vars, x ∈ rows.map Row.name) (fun n e h he => ⟨(parts_wf h.1 e he).1, by have := (parts_wf h.1 e he).2; have := h.2.1; omega, fun x hx => h.2.2 x (parts_vars he x hx)⟩) 30 nd [] 0 ⟨hw, hs, hv⟩
  have hlast := rowsF_end (d := 29) (nd := nd) (pt := []) (n := 0)
  have hln := rows_len 30 nd [] 0 hs
  generalize rowsF (29 + 1) nd [] 0 = its at hR hlen hrow hrok hall hlast hln
  have exH : ∀ {G : Hp}, Bu kl H6 G → Ex H G := fun bu b o q => bu b o (fun z => by rw [z] at q; have := e13 _ _ q; rw [nkl] at this; exact nomatch this) (e16 _ _ q)
  have hpl : (ps.map V.ref).length = its.length := by rw [List.length_map, hlen]
  refine ⟨rl, rfl, ⟨_, sq_of hl⟩, for_list (xs := ps.map V.ref) (fun i σ G => Bu kl H6 G ∧ G kl = some (.lst ((its.take i).map fun it => exV g it.2.1)) ∧ ∃ y4 y5 y6, σ = [some (.ref l), some (.ref p), some (.ref dv), some (.ref kl), y4, y5, y6, none]) ⟨Bu.refl kl H6, hk6, none, none, none, rfl⟩ (fun i σ G _ h => sq_of (h.1 _ _ nlk hl)) ?_ ?_⟩
  · intro i x σ G hx hp
    obtain ⟨bu, hD, y4, y5, y6, rfl⟩ := hp
    have eG := exH bu
    rw [List.getElem?_map] at hx
    obtain ⟨pp, hpq, rfl⟩ := Option.map_eq_some_iff.mp hx
    have hi : i < its.length := by
      have := (List.getElem?_eq_some_iff.mp hpq).1
      rw [hlen] at this
      exact this
    have hit : its[i]? = some its[i] := List.getElem?_eq_getElem hi
    obtain ⟨p2, t, q, r, z1, z2, z3, z4, z5, z6, z7⟩ := hrow i its[i] hit
    rw [hpq] at z1
    cases z1
    have hko := hall its[i] (List.getElem_mem _)
    have hro := hrok i its[i].1 its[i].2.1 its[i].2.2 hit
    have htk : its.take (i + 1) = its.take i ++ [its[i]] := by
      rw [List.take_add_one, hit]
      rfl
    have hil : i ≤ 30 := by omega
    generalize its[i] = it at hit z2 z3 z4 z5 hko hro htk
    obtain ⟨hpln, hpat⟩ := hro
    have h33 : it.2.1.parts.length ≤ 3 := by cases it.2.1 <;> simp [Nd.parts]
    have neT : ∀ {a : Addr} {xs : List V}, H6 a = some (.tup xs) → a ≠ kl := fun h z => by rw [z, hk6] at h; exact nomatch h
    have hTG : TreeAt G q it.2.1 := z4.tk (TupK.ofBu bu hk6)
    have hrk : r ≠ kl := z6
    refine ⟨pp, _, rfl, st_of (bu _ _ (neT z2) z2), rfl, _, _, rfl, _, _, rfl, _, _, rfl, rfl, ?_⟩
    dsimp only [List.set]
    obtain ⟨rest, hd0⟩ := hTG.head
    have hrG := bu _ _ hrk z5
    have eHG : ∀ {G' : Hp}, Ex G G' → Bu kl H6 G' := fun e b o nb z => e _ _ (bu b o nb z)
    have fin : ∀ {G' : Hp}, Ex G G' → Bu kl H6 (upd G' kl (.lst (((its.take i).map fun it => exV g it.2.1) ++ [exV g it.2.1]))) := fun e b o nb z => by
      rw [upd_ne nb]
      exact eHG e b o nb z
    have fin2 : ∀ {G' : Hp}, (upd G' kl (.lst (((its.take i).map fun it => exV g it.2.1) ++ [exV g it.2.1]))) kl = some (.lst ((its.take (i + 1)).map fun it => exV g it.2.1)) := by
      intro G'
      rw [upd_same, htk, List.map_append]
      rfl
    have szK : ((its.take i).map fun it => exV g it.2.1).length < sizeLine := by
      rw [List.length_map, List.length_take]
      exact sz_lt (by omega)
    refine s_if (b := decide (V.str it.2.1.word = V.str "var")) (et_test (ev_op (ev_op (ev_var rfl) ev_c (rv_ixT (st_of hd0) (atI_nat (j := 0) rfl))) ev_c (rv_eq rfl))) (fun hb G1 f1 => ?_) (fun hb G1 f1 => ?_)
    · obtain ⟨x, hx⟩ := word_var (V.str.inj (of_decide_eq_true hb))
      rw [hx] at hTG hko fin fin2
      have hxm := hko.2.2 x (List.mem_cons_self ..)
      obtain ⟨wr, hwr, hwn⟩ := List.mem_map.mp hxm
      obtain ⟨k1, _, _⟩ := hok wr hwr
      rw [hwn] at k1
      have hTv : G1 q = some (.tup [.str "var", .str x]) := f1 _ _ hTG
      refine (?_ : tBM _ _ _ _ _ _ _ _)
      refine app_raw (i := 3) rfl (f1 _ _ hD) (?_ : tCons _ _ _ _ _)
      refine ea_at (ev_dgetV (ev_var rfl) (ev_op (ev_var rfl) ev_c (rv_ixT (st_of hTv) (atI_nat (j := 1) rfl))) (f1 _ _ (eG _ _ hd)) k1) fun G2 f2 => ?_
      have hv : V.int (g x) = exV g (.var x) := (exV_E (nd := .var x) rfl).symm
      rw [hv]
      exact ⟨kl, _, _, rfl, rfl, (f1.trans f2) _ _ hD, szK, fin (f1.trans f2), fin2, _, _, _, rfl⟩
    · have hnv : it.2.1.word ≠ "var" := fun z => of_decide_eq_false hb (by rw [z])
      refine (?_ : tBM _ _ _ _ _ _ _ _)
      refine app_raw (i := 3) rfl (f1 _ _ hD) (?_ : tCons _ _ _ _ _)
      refine (?_ : tCall _ _ _ _ _ _ _)
      refine ea_at (ev_var rfl) fun G4 f4 => ?_
      have f14 := f1.trans f4
      refine (?_ : tCons _ _ _ _ _)
      refine ea_atL (el_lcLA (K := K) (xs := natsV it.2.2) (fun c => exV g (it.2.1.parts.getD c (.lit 0 ""))) (ev_var rfl) (sq_of (f14 _ _ hrG)) (by rw [natsV, List.length_map, hpln]; omega) (fun y => rfl) (fun c y G5 f5 hc => ?_)) fun ol G6 n6 f6 h6 => ?_
      · unfold natsV at hc
        rw [List.getElem?_map] at hc
        obtain ⟨x0, hx0, rfl⟩ := Option.map_eq_some_iff.mp hc
        have hci : c < it.2.1.parts.length := by
          rw [← hpln]
          exact (List.getElem?_eq_some_iff.mp hx0).1
        obtain ⟨x1, ptx, plx, a1, a2, a3⟩ := hpat c it.2.1.parts[c] (List.getElem?_eq_getElem hci)
        rw [hx0] at a1
        cases a1
        refine ev_op (ev_var rfl) (ev_var rfl) (rv_ixL (sq_of (f5 _ _ (f14 _ _ hD))) (atI_nat ?_))
        rw [List.getElem?_map, List.getElem?_take, if_pos a2, a3]
        have : it.2.1.parts.getD c (.lit 0 "") = it.2.1.parts[c] := by
          rw [List.getD_eq_getElem?_getD, List.getElem?_eq_getElem hci]
          rfl
        rw [this]
        rfl
      have hol : G6 ol = some (.lst (it.2.1.parts.map (exV g))) := by
        rw [h6]
        have : (natsV it.2.2).length = it.2.1.parts.length := by rw [natsV, List.length_map, hpln]
        rw [this, given_all it.2.1.parts (exV g) (.lit 0 "")]
      have f16 := f14.trans f6
      refine ⟨exV g it.2.1, ⟨q, ol, g, it.2.1, rfl, hTG.ex f16, hko.1, hko.2.1, hnv, hg, hol, rfl⟩, fun G7 f7 => ?_⟩
      exact ⟨kl, _, _, rfl, rfl, (f16.trans f7) _ _ hD, szK, fin (f16.trans f7), fin2, _, _, _, rfl⟩
  · intro σ G hp
    obtain ⟨bu, hD, y4, y5, y6, rfl⟩ := hp
    rw [hpl, List.take_length, hlast, List.map_append] at hD
    exact s_ret (ev_op (ev_var rfl) (ev_un ev_c ru_neg) (rv_ixL (sq_of hD) (atI_last _ _))) fun G2 e2 => hQ G2 ((exH bu).trans e2)

theorem sc_corners : FnScope ["spans", "found", "span", "corner", "end"] ["spans"] (defScope s_corners) := ⟨rfl, rfl, rfl, by decide +kernel, rfl, by decide +kernel, by decide +kernel⟩
theorem ok_corners (D : Df K mg "corners" s_corners ["spans"] f fd) : FnG P w K mg base CX0 1 f fd ["spans"] spCorners := by
  refine df_ok D sc_corners (fun vs H Q E h => by obtain ⟨l, ss, rfl, _⟩ := h; rfl) (fun cdv A outer s H vs Q E hG hr h => ?_)
  obtain ⟨l, ss, rfl, hS, hz, hQ⟩ := h
  have ndp := sc_corners.nd
  refine ⟨_, (pss_cons (ps_set (i := 1) ndp rfl (.inl rfl) (pe_lst (pa_cons (pe_lst pa_nil) pa_nil))) (pss_cons (ps_for PassesOwn.never rfl (pi_list (pv 0)) (pg_name (i := 2) ndp rfl (.inr rfl))
        (pss_one (ps_setLc2 (i := 1) (own := [("corner", 3), ("end", 4)]) (vs1 := [4]) (g := gName 3) (g1 := gName 4) (tt := tYes) (tt1 := tYes) (wi1 := iTup K (tVar 2)) rfl ndp rfl rfl (by rfl) (pi_list (pv 1)) (blkOk_by (N := ["spans", "found", "span", "corner", "end"]) (sc := defScope s_corners) (by decide +kernel)) (by decide) (fun _ _ _ _ _ => pg_name (i := 3) ndp rfl (Or.inl rfl)) (fun _ _ _ _ _ => pts_nil) (fun _ _ _ _ _ => pi_tup (pv 2)) (fun _ _ _ _ _ => pg_name (i := 4) ndp rfl (Or.inl rfl)) (fun _ _ _ _ _ => pts_nil) (fun _ _ _ _ _ => pe_op op_cat (pv 3) (pe_lst (pa_cons (pv 4) pa_nil)))))) (pss_one (ps_ret (pv 1))))), ?_⟩
  obtain ⟨ps, hl, hlen, hrow⟩ := id hS
  refine q_raw (lst_raw (?_ : tCons _ _ _ _ _))
  refine lst_raw (?_ : tNil _ _ _)
  refine (⟨by show 0 ≤ sizeLine; decide, fun z0 nz0 => ?_⟩ : _ ∧ _)
  refine (?_ : tNil _ _ _)
  refine (⟨by show 1 ≤ sizeLine; decide, fun z1 nz1 => ?_⟩ : _ ∧ _)
  have e1 : Ex H (upd H z0 (.lst [])) := Ex.new nz0
  have h0 : (upd H z0 (.lst [])) z0 = some (.lst []) := upd_same
  generalize upd H z0 (.lst []) = H1 at e1 h0 nz1 ⊢
  have e2 : Ex H1 (upd H1 z1 (.lst [.ref z0])) := Ex.new nz1
  have h1 : (upd H1 z1 (.lst [.ref z0])) z1 = some (.lst [.ref z0]) := upd_same
  have h01 := e2 _ _ h0
  generalize upd H1 z1 (.lst [.ref z0]) = H2 at e2 h1 h01 ⊢
  dsimp only [List.set]
  have e12 := e1.trans e2
  have hpl : (ps.map V.ref).length = ss.length := by rw [List.length_map, hlen]
  refine (?_ : tFor _ _ _ _ _ _)
  refine ⟨_, rfl, l, rfl, ⟨_, sq_of (e12 _ _ hl)⟩, for_list (xs := ps.map V.ref) (fun i σ G => Ex H G ∧ ∃ a y2 y3 y4, σ = [some (.ref l), some (.ref a), y2, y3, y4] ∧ LLAt G a (crn (ss.take i))) ⟨e12, z1, none, none, none, rfl, ⟨[z0], h1, rfl, fun j c hj => by
      have hj : ([[]] : List (List V))[j]? = some c := hj
      match j, hj with
      | 0, hj => cases (Option.some.inj hj); exact ⟨z0, rfl, h01⟩
      | j + 1, hj => simp at hj⟩⟩ (fun i σ G _ h => ex_l h.1 (sq_of hl)) ?_ ?_⟩
  · intro i x σ G hx hp
    obtain ⟨e, a, y2, y3, y4, rfl, hA⟩ := hp
    rw [List.getElem?_map] at hx
    obtain ⟨q, hq, rfl⟩ := Option.map_eq_some_iff.mp hx
    have hi : i < ss.length := by
      have := (List.getElem?_eq_some_iff.mp hq).1
      rw [hlen] at this
      exact this
    have hsi : ss[i]? = some ss[i] := List.getElem?_eq_getElem hi
    obtain ⟨q2, w1, w2⟩ := hrow i ss[i] hsi
    rw [hq] at w1
    cases w1
    have hcl := crn_len (ss.take i)
    have hpw : 2 ^ (ss.take i).length ≤ 2 ^ 3 := Nat.pow_le_pow_right (by decide) (by rw [List.length_take]; omega)
    refine (?_ : tAsg _ _ _ _ _)
    dsimp only [List.set]
    refine (?_ : tLc2 _ _ _ _ _ _ _ _ _ _ _ _)

    refine lc2_corners (K := K) hA (e _ _ w2) (by rw [hcl.1]; omega) (fun c hc => by rw [hcl.2 c hc, List.length_take]; omega) fun D G' e' hD => ?_
    rw [← crn_take hsi] at hD
    exact ⟨e.trans e', D, _, _, _, rfl, hD⟩
  · intro σ G hp
    obtain ⟨e, a, y2, y3, y4, rfl, hA⟩ := hp
    rw [hpl, List.take_length] at hA
    exact s_ret (ev_var rfl) fun G2 e2 => hQ a G2 (e.trans e2) (hA.ex e2)

theorem sc_spans_of : FnScope ["variables", "rows", "ends", "spans", "_", "node", "places", "found", "row", "at", "corner"] ["variables", "rows"] (defScope s_spans_of) := ⟨rfl, rfl, rfl, by decide +kernel, rfl, by decide +kernel, by decide +kernel⟩
theorem ok_spans_of (D : Df K mg "spans_of" s_spans_of ["variables", "rows"] f fd) (cc : Cl P w K mg base 1 "corners" ["spans"] spCorners) (cx : Cl P w K mg base 2 "exact" ["node", "of_parts"] (PV (preEx K))) (cmi : mg "min" = none) (cma : mg "max" = none) : FnG P w K mg base CX0 3 f fd ["variables", "rows"] (spSpans K) := by
  refine df_ok D sc_spans_of (fun vs H Q E h => by obtain ⟨lv, l, rows, its, X, rfl, _⟩ := h; rfl) (fun cdv A outer s H vs Q E hG hr h => ?_)
  obtain ⟨lv, rl, rows, its, X, rfl, hV, hF, hR, hrok, hzi, hall, hQ⟩ := h
  have ndp := sc_spans_of.nd
  have hu := hu_of hr
  refine ⟨_, (pss_cons (ps_setDc (j := 2) (own := [("row", 8)]) (g := gName 8) (tt := tYes) rfl ndp rfl rfl (sw_dict rfl rfl rfl (by decide +kernel)) (pi_list (pv 0)) (blkOk_by (N := ["variables", "rows", "ends", "spans", "_", "node", "places", "found", "row", "at", "corner"]) (sc := defScope s_spans_of) (by decide +kernel)) (fun _ _ _ _ _ => pg_name (i := 8) ndp rfl (Or.inl rfl)) (fun _ _ _ _ _ => pts_nil) (fun _ _ _ _ _ => pe_ix (ix_tup : IxR _ (rIxT K)) (pv 8) pe_int (fun _ _ => rfl)) (fun _ _ _ _ _ => pe_tup (pa_cons (pe_ix (ix_tup : IxR _ (rIxT K)) (pv 8) pe_int (fun _ _ => rfl)) (pa_cons (pe_ix (ix_tup : IxR _ (rIxT K)) (pv 8) pe_int (fun _ _ => rfl)) pa_nil)))) (pss_cons (ps_set (i := 3) ndp rfl (.inr rfl) (pe_lst pa_nil)) (pss_cons (ps_for PassesOwn.never rfl (pi_list (pv 1)) (pg_tup rfl (pgs_cons (pg_name (i := 4) ndp rfl (.inl rfl)) (pgs_cons (pg_name (i := 5) ndp rfl (.inr rfl)) (pgs_cons (pg_name (i := 6) ndp rfl (.inl rfl)) pgs_nil))))
        (pss_one (ps_if (pt_cmpR op_eq (pe_ix ix_tup (pv 5) pe_int (fun _ _ => rfl)) pe_str (nomark _)) (pss_one (ps_expr (pe_bm PySem.F.plainAttrs_list PySem.F.slot_list_append PySem.F.type_list_append mt_append (pv 3) (pa_cons (pe_dget hu (pv 2) (pe_ix ix_tup (pv 5) pe_int (fun _ _ => rfl)) (fun _ _ => rfl)) pa_nil))))
          (pss_cons (ps_setLc (i := 7) (own := [("corner", 10)]) (g := gName 10) (tt := tYes) rfl ndp rfl rfl (by rfl) (pi_list (pe_cl cc hG hr rfl (pa_cons (pe_lc (own := [("at", 9)]) (g := gName 9) (tt := tYes) rfl ndp (pi_list (pv 6)) (blkOk_by (N := ["variables", "rows", "ends", "spans", "_", "node", "places", "found", "row", "at", "corner"]) (sc := defScope s_spans_of) (by decide +kernel)) (fun _ _ _ _ _ => pg_name (i := 9) ndp rfl (Or.inl rfl)) (fun _ _ _ _ _ => pts_nil) (fun _ _ _ _ _ => pe_ix (ix_list : IxR _ (rIxL K)) (pv 3) (pv 9) (fun _ _ => rfl))) pa_nil) (by decide))) (blkOk_by (N := ["variables", "rows", "ends", "spans", "_", "node", "places", "found", "row", "at", "corner"]) (sc := defScope s_spans_of) (by decide +kernel)) (fun _ _ _ _ _ => pg_name (i := 10) ndp rfl (Or.inl rfl)) (fun _ _ _ _ _ => pts_nil) (fun _ _ _ _ _ => pe_cl cx hG hr rfl (pa_cons (pv 5) (pa_cons (pv 10) pa_nil)) (by decide))) (pss_one (ps_expr (pe_bm PySem.F.plainAttrs_list PySem.F.slot_list_append PySem.F.type_list_append mt_append (pv 3) (pa_cons (pe_tup (pa_cons (pe_callB (cr_minN rfl) (by rfl) cmi (by decide +kernel) (pa_cons (pv 7) pa_nil)) (pa_cons (pe_callB (cr_maxN rfl) (by rfl) cma (by decide +kernel) (pa_cons (pv 7) pa_nil)) pa_nil))) pa_nil)))))))) (pss_one (ps_ret (pv 3)))))), ?_⟩
  refine q_raw (?_ : tDc _ _ _ _ _ _ _ _ _)
  refine dc_ends (K := K) hV hF.z hF.nd fun dD H1 n1 e1 hD => ?_
  dsimp only [List.set]
  refine q_raw (lst_raw (?_ : tNil _ _ _))
  refine (⟨by show 0 ≤ sizeLine; decide, fun kl nkl => ?_⟩ : _ ∧ _)
  have e2 : Ex H1 (upd H1 kl (.lst [])) := Ex.new nkl
  have hk2 : (upd H1 kl (.lst [])) kl = some (.lst []) := upd_same
  generalize upd H1 kl (.lst []) = H2 at e2 hk2 ⊢
  try dsimp only [List.set]
  have e12 := e1.trans e2
  have ndk : dD ≠ kl := fun z => by obtain ⟨L, _, h, _⟩ := hD; rw [z, nkl] at h; exact nomatch h
  have hD2 : EndsAt H2 dD rows := by
    obtain ⟨L, a, b, c⟩ := hD
    exact ⟨L, a, e2 _ _ b, fun x hx => e2 _ _ (c x hx)⟩
  obtain ⟨ps, hl, hlen, hrow⟩ := id hR
  have nHk : H kl = none := by
    cases hq : H kl with
    | none => rfl
    | some o => rw [e1 _ _ hq] at nkl; exact nomatch nkl
  have nlk : rl ≠ kl := fun z => by rw [z, nHk] at hl; exact nomatch hl
  have exH : ∀ {G : Hp}, Bu kl H2 G → Ex H G := fun bu b o q => bu b o (fun z => by rw [z, nHk] at q; exact nomatch q) (e12 _ _ q)
  have hpl : (ps.map V.ref).length = its.length := by rw [List.length_map, hlen]
  have hl2 := e12 _ _ hl
  refine (?_ : tFor _ _ _ _ _ _)
  refine ⟨_, rfl, rl, rfl, ⟨_, sq_of hl2⟩, for_list (xs := ps.map V.ref) (fun i σ G => Bu kl H2 G ∧ SpRows G kl rows (its.take i) ∧ ∃ y4 y5 y6 y7, σ = [some (.ref lv), some (.ref rl), some (.ref dD), some (.ref kl), y4, y5, y6, y7, none, none, none]) ⟨Bu.refl kl H2, ⟨[], hk2, rfl, fun j it h => nomatch h⟩, none, none, none, none, rfl⟩ (fun i σ G _ h => sq_of (h.1 _ _ nlk hl2)) ?_ ?_⟩
  · intro i x σ G hx hp
    obtain ⟨bu, hS, y4, y5, y6, y7, rfl⟩ := hp
    have eG := exH bu
    rw [List.getElem?_map] at hx
    obtain ⟨pp, hpq, rfl⟩ := Option.map_eq_some_iff.mp hx
    have hi : i < its.length := by
      have := (List.getElem?_eq_some_iff.mp hpq).1
      rw [hlen] at this
      exact this
    have hit : its[i]? = some its[i] := List.getElem?_eq_getElem hi
    obtain ⟨p2, t, q, r, z1, z2, z3, z4, z5, z6, z7⟩ := hrow i its[i] hit
    rw [hpq] at z1
    cases z1
    have hni := hall its[i] (List.getElem_mem _)
    have hro := hrok i its[i].1 its[i].2.1 its[i].2.2 hit
    have htk : its.take (i + 1) = its.take i ++ [its[i]] := by
      rw [List.take_add_one, hit]
      rfl
    generalize its[i] = it at hit z2 z3 z4 z5 hni hro htk
    obtain ⟨hpln, hpat⟩ := hro
    have h33 : it.2.1.parts.length ≤ 3 := by cases it.2.1 <;> simp [Nd.parts]
    obtain ⟨acc0, hacc, hal⟩ := hS.list
    have htl : acc0.length ≤ 100 := by rw [hal, List.length_take]; omega
    refine ⟨pp, _, rfl, st_of (eG _ _ z2), rfl, _, _, rfl, _, _, rfl, _, _, rfl, rfl, ?_⟩
    dsimp only [List.set]
    have hTG : TreeAt G q it.2.1 := z4.ex eG
    obtain ⟨rest, hd0⟩ := hTG.head
    have hrG := eG _ _ z5
    have fin : ∀ {G' : Hp} {o : HO}, Ex G G' → Bu kl H2 (upd G' kl o) := fun e b o nb z => by
      rw [upd_ne nb]
      exact e _ _ (bu b o nb z)
    refine s_if (b := decide (V.str it.2.1.word = V.str "var")) (et_test (ev_op (ev_op (ev_var rfl) ev_c (rv_ixT (st_of hd0) (atI_nat (j := 0) rfl))) ev_c (rv_eq rfl))) (fun hb G1 f1 => ?_) (fun hb G1 f1 => ?_)
    · obtain ⟨x, hx⟩ := word_var (V.str.inj (of_decide_eq_true hb))
      rw [hx] at hTG
      have hxm := hni.vs x (by rw [hx]; exact List.mem_cons_self ..)
      obtain ⟨wr, hwr, hwn⟩ := List.mem_map.mp hxm
      have hDG : EndsAt G1 dD rows := by
        obtain ⟨L, a, b, c⟩ := hD2.bu ndk ⟨_, hk2⟩ bu
        exact ⟨L, a, f1 _ _ b, fun x hx => f1 _ _ (c x hx)⟩
      obtain ⟨L, pq, g1, g2, g3⟩ := ends_at hDG hF.nd hwr
      rw [hwn] at g2
      have hTv : G1 q = some (.tup [.str "var", .str x]) := f1 _ _ hTG
      refine (?_ : tBM _ _ _ _ _ _ _ _)
      refine app_raw (i := 3) rfl (f1 _ _ hacc) (?_ : tCons _ _ _ _ _)
      refine ea_at (ev_dgetV (ev_var rfl) (ev_op (ev_var rfl) ev_c (rv_ixT (st_of hTv) (atI_nat (j := 1) rfl))) g1 g2) fun G2 f2 => ?_
      have f12 := f1.trans f2
      have hacc2 := f12 _ _ hacc
      have hsp : IsSp rows it.2.1 wr.low wr.high := by rw [hx, ← hwn]; exact var_sp hF hwr
      have hE : it.2.1.isE = true := by rw [hx]; rfl
      obtain ⟨_, hN⟩ := (hS.ex f12).add (it := it) (lo := wr.low) (hi := wr.high) (q := pq) (by rw [hE]; exact f2 _ _ g3) hsp hacc2
      exact ⟨kl, _, _, rfl, rfl, hacc2, sz_lt (by omega), fin f12, by rw [htk]; exact hN, _, _, _, _, rfl⟩
    · have hnv : it.2.1.word ≠ "var" := fun z => of_decide_eq_false hb (by rw [z])
      obtain ⟨qs, hqs, hql, hqa⟩ := id hS
      obtain ⟨ss, hss, hsl, hsa⟩ := sps_of (rows := rows) (G := G) (ps := qs) it.2.1.parts it.2.2 hpln (fun c e he => by
        obtain ⟨x1, ptx, plx, a1, a2, a3⟩ := hpat c e he
        obtain ⟨p3, lo, hi3, b1, b2, b3⟩ := hqa x1 (ptx, e, plx) (by rw [List.getElem?_take, if_pos a2]; exact a3)
        exact ⟨x1, p3, lo, hi3, a1, b1, b2, b3⟩)
      obtain ⟨Gs, hGs⟩ := corner (low_bx hF) hni.wf hni.nn hnv hss
      obtain ⟨lo, hi2, hsp, l1, l2, m1, m2⟩ := cor_sp hGs
      obtain ⟨c1, c2, c3, c4⟩ := hGs
      have h3s : ss.length ≤ 3 := by omega
      have hcl := crn_len ss
      have hpw : 2 ^ ss.length ≤ 2 ^ 3 := Nat.pow_le_pow_right (by decide) h3s
      have hGl : Gs.length ≤ 8 := by
        have : (crn ss).length = Gs.length := by rw [c1, List.length_map]
        omega
      have hkl : ∀ {F : Hp}, Ex G F → F kl = some (.lst (qs.map V.ref)) := fun e => e _ _ hqs
      refine q_raw (lc_of (K := K) (fun a F => Ex G1 F ∧ LLAt F a (crn ss)) (fun R hR => ?_) (fun y => rfl) fun cl G7 hG7 => ?_)
      rotate_left
      · obtain ⟨f7, hLL⟩ := hG7
        have f17 := f1.trans f7
        obtain ⟨cps, d1, d2, d3⟩ := hLL
        have hcz : cps.length = Gs.length := by rw [d2, c1, List.length_map]
        refine ⟨cps.map V.ref, fun c => exV (Gs.getD c (fun _ => 0)) it.2.1, sq_of d1, by rw [List.length_map, hcz]; omega, fun c y G8 f8 hc => ?_, fun fl G8 n8 f8 h8 => ?_⟩
        · rw [List.getElem?_map] at hc
          obtain ⟨cp, hcp, rfl⟩ := Option.map_eq_some_iff.mp hc
          have hcG : c < Gs.length := by rw [← hcz]; exact (List.getElem?_eq_some_iff.mp hcp).1
          have hcn : (crn ss)[c]? = some (it.2.1.parts.map (exV Gs[c])) := by rw [c1, List.getElem?_map, List.getElem?_eq_getElem hcG]; rfl
          obtain ⟨p5, v1, v2⟩ := d3 c _ hcn
          rw [hcp] at v1
          cases v1
          have hgd : Gs.getD c (fun _ => 0) = Gs[c] := by rw [List.getD_eq_getElem?_getD, List.getElem?_eq_getElem hcG]; rfl
          show Ev _ _ _ (exV (Gs.getD c (fun _ => 0)) it.2.1)
          rw [hgd]
          exact ev_call (ea_cons (ev_var rfl) (ea_cons (ev_var rfl) ea_nil)) (spEx (hTG.ex ((f17.trans f8))) hni.wf hni.sz hnv (c3 _ (List.getElem_mem hcG)).2 (f8 _ _ v2))
        have hfl : given (cps.map V.ref).length (fun _ => true) (fun c => exV (Gs.getD c (fun _ => 0)) it.2.1) = (Gs.map fun g => it.2.1.nm g).map (kV it.2.1.isE) := by
          rw [List.length_map, hcz, given_all Gs (fun g => exV g it.2.1) (fun _ => 0), List.map_map]
          congr 1
          funext g
          exact exV_kV g it.2.1
        rw [hfl] at h8
        have f18 := f17.trans f8
        have hkl8 := hkl f18
        dsimp only [List.set]
        refine (?_ : tBM _ _ _ _ _ _ _ _)
        refine app_raw (i := 3) rfl hkl8 (?_ : tCons _ _ _ _ _)
        have h01 : it.2.1.isE = false → ∀ n ∈ Gs.map (fun g => it.2.1.nm g), n = 0 ∨ n = 1 := fun hE n hn => by
          obtain ⟨g, _, rfl⟩ := List.mem_map.mp hn
          exact nm_01 hE
        refine ea_atU (eu_tup (ea_cons (ev_minN (ev_var rfl) h8 l1 l2 h01) (ea_cons (ev_maxN (ev_var rfl) h8 m1 m2 h01) ea_nil)) (by show 2 ≤ _; decide)) fun pq G9 n9 f9 h9 => ?_
        have f19 := f18.trans f9
        have hacc9 := f19 _ _ hacc
        obtain ⟨_, hN⟩ := (hS.ex f19).add (it := it) h9 hsp hacc9
        exact ⟨kl, _, _, rfl, rfl, hacc9, sz_lt (by omega), fin f19, by rw [htk]; exact hN, _, _, _, _, rfl⟩
      refine (?_ : tCall _ _ _ _ _ _ _)
      refine (?_ : tCons _ _ _ _ _)
      refine ea_atL (el_lcLA (K := K) (xs := natsV it.2.2) (fun c => V.ref (qs.getD (it.2.2.getD c 0) 0)) (ev_var rfl) (sq_of (f1 _ _ hrG)) (by rw [natsV, List.length_map, hpln]; omega) (fun y => rfl) (fun c y G5 f5 hc => ?_)) fun ol G6 n6 f6 h6 => ?_
      · unfold natsV at hc
        rw [List.getElem?_map] at hc
        obtain ⟨x0, hx0, rfl⟩ := Option.map_eq_some_iff.mp hc
        have hci : c < it.2.1.parts.length := by
          rw [← hpln]
          exact (List.getElem?_eq_some_iff.mp hx0).1
        obtain ⟨x1, ptx, plx, a1, a2, a3⟩ := hpat c it.2.1.parts[c] (List.getElem?_eq_getElem hci)
        rw [hx0] at a1
        cases a1
        obtain ⟨p3, lo3, hi3, b1, b2, b3⟩ := hqa x0 (ptx, it.2.1.parts[c], plx) (by rw [List.getElem?_take, if_pos a2]; exact a3)
        refine ev_op (ev_var rfl) (ev_var rfl) (rv_ixL (sq_of (hkl (f1.trans f5))) (atI_nat ?_))
        rw [List.getElem?_map, List.getD_eq_getElem?_getD, List.getD_eq_getElem?_getD, hx0]
        show Option.map V.ref qs[x0]? = some (V.ref (qs[x0]?.getD 0))
        rw [b1]
        rfl
      have f16 := f1.trans f6
      have hlist : given (natsV it.2.2).length (fun _ => true) (fun c => V.ref (qs.getD (it.2.2.getD c 0) 0)) = (it.2.2.map fun x => qs.getD x 0).map V.ref := by
        have : (natsV it.2.2).length = it.2.2.length := by rw [natsV, List.length_map]
        rw [this, given_all it.2.2 (fun x => V.ref (qs.getD x 0)) 0, List.map_map]
        rfl
      rw [hlist] at h6
      have hSp : SpnAt G6 ol ss := by
        refine ⟨_, h6, by rw [List.length_map, hpln, hsl], fun c s hs => ?_⟩
        obtain ⟨x, p, b1, b2, b3⟩ := hsa c s hs
        refine ⟨p, ?_, f16 _ _ b3⟩
        rw [List.getElem?_map, b1]
        show some (qs.getD x 0) = some p
        rw [List.getD_eq_getElem?_getD, b2]
        rfl
      exact ⟨ol, ss, rfl, hSp, h3s, fun cl G7 f7 hLL => hR cl G7 ⟨f6.trans f7, hLL⟩⟩
  · intro σ G hp
    obtain ⟨bu, hS, y4, y5, y6, y7, rfl⟩ := hp
    rw [hpl, List.take_length] at hS
    exact s_ret (ev_var rfl) fun G2 f2 => hQ kl G2 ((exH bu).trans f2) (hS.ex f2)

theorem sc_bounds : FnScope ["variables", "expression"] ["variables", "expression"] (defScope s_bounds) := ⟨rfl, rfl, rfl, by decide +kernel, rfl, by decide +kernel, by decide +kernel⟩
theorem ok_bounds {k : Nat} (D : Df K mg "bounds" s_bounds ["variables", "expression"] f fd) (hk : 3 ≤ k) (cv : Cl P w K mg base 2 "check_variables" ["variables"] spCV) (ce : Cl P w K mg base k "check_expression" ["variables", "expression"] spCE) (cr : Cl P w K mg base k "rows_of" ["expression"] (spRows K)) (cs : Cl P w K mg base 3 "spans_of" ["variables", "rows"] (spSpans K)) : FnG P w K mg base CX0 (k + 1) f fd ["variables", "expression"] (spBounds K) := by
  refine df_ok D sc_bounds (fun vs H Q E h => by obtain ⟨l, p, rows, nd, rfl, _⟩ := h; rfl) (fun cdv A outer s H vs Q E hG hr h => ?_)
  obtain ⟨l, p, rows, nd, rfl, hV, hF, hnm, hT, hI, hQ⟩ := h
  have ndp := sc_bounds.nd
  have hk1 : 2 ≤ k := by omega
  refine ⟨_, (pss_cons (ps_expr (pe_cl cv hG hr rfl (pa_cons (pv 0) pa_nil) hk1)) (pss_cons (ps_expr (pe_cl ce hG hr rfl (pa_cons (pv 0) (pa_cons (pv 1) pa_nil)) (Nat.le_refl _))) (pss_one (ps_ret (pe_ix ix_list (pe_cl cs hG hr rfl (pa_cons (pv 0) (pa_cons (pe_cl cr hG hr rfl (pa_cons (pv 1) pa_nil) (Nat.le_refl _)) pa_nil)) hk) (pe_un un_neg pe_int) (fun _ _ => rfl)))))), ?_⟩
  refine q_drop (v := .non) (ev_call (ea_cons (ev_var rfl) ea_nil) fun G e Q2 q E2 => ⟨l, rows, rfl, hV.ex e, hF.z, hnm, hF.nd, fun w hw => (hF.fit w hw).1, q⟩) fun H1 e1 => ?_
  refine q_drop (v := .non) (ev_call (ea_cons (ev_var rfl) (ea_cons (ev_var rfl) ea_nil)) fun G e Q2 q E2 => ⟨l, p, rows, nd, rfl, hV.ex (e1.trans e), hF.z, hF.nd, hT.ex (e1.trans e), hI.wf, hI.sz, hI.vs, hI.nn, q⟩) fun H2 e2 => ?_
  have e12 := e1.trans e2
  refine ret_raw (op_raw (?_ : tCall _ _ _ _ _ _ _))
  refine spans_rows (K := K) rfl rfl (hV.ex e12) hF (hT.ex e12) hI fun R H3 ps q lo hi e3 hl hq hsp => ?_
  refine (ev_un ev_c ru_neg) H3 (Ex.refl H3) _ fun H4 e4 => ?_
  exact ⟨R, _, _, _, rfl, rfl, sq_of (e4 _ _ hl), atI_last _ _, hQ q lo hi H4 ((e12.trans e3).trans e4) (e4 _ _ hq) hsp⟩

theorem sc_outcomes : FnScope ["variables", "condition", "least", "greatest"] ["variables", "condition"] (defScope s_outcomes) := ⟨rfl, rfl, rfl, by decide +kernel, rfl, by decide +kernel, by decide +kernel⟩
theorem ok_outcomes {k : Nat} (D : Df K mg "outcomes" s_outcomes ["variables", "condition"] f fd) (hk : 3 ≤ k) (cv : Cl P w K mg base 2 "check_variables" ["variables"] spCV) (ce : Cl P w K mg base k "check_expression" ["variables", "expression"] spCE) (cr : Cl P w K mg base k "rows_of" ["expression"] (spRows K)) (cs : Cl P w K mg base 3 "spans_of" ["variables", "rows"] (spSpans K)) : FnG P w K mg base CX0 (k + 1) f fd ["variables", "condition"] (spOutc K) := by
  refine df_ok D sc_outcomes (fun vs H Q E h => by obtain ⟨l, p, rows, nd, rfl, _⟩ := h; rfl) (fun cdv A outer s H vs Q E hG hr h => ?_)
  obtain ⟨l, p, rows, nd, rfl, hV, hF, hnm, hT, hI, hE, hQ⟩ := h
  have ndp := sc_outcomes.nd
  have hk1 : 2 ≤ k := by omega
  refine ⟨_, (pss_cons (ps_expr (pe_cl cv hG hr rfl (pa_cons (pv 0) pa_nil) hk1)) (pss_cons (ps_expr (pe_cl ce hG hr rfl (pa_cons (pv 0) (pa_cons (pv 1) pa_nil)) (Nat.le_refl _))) (pss_cons (ps_asg (pe_ix ix_list (pe_cl cs hG hr rfl (pa_cons (pv 0) (pa_cons (pe_cl cr hG hr rfl (pa_cons (pv 1) pa_nil) (Nat.le_refl _)) pa_nil)) hk) (pe_un un_neg pe_int) (fun _ _ => rfl)) (pg_tup rfl (pgs_cons (pg_name (i := 2) ndp rfl (.inl rfl)) (pgs_cons (pg_name (i := 3) ndp rfl (.inl rfl)) pgs_nil)))) (pss_one (ps_ret (pe_tup (pa_cons (pv 3) (pa_cons (pe_not (pv 2)) pa_nil)))))))), ?_⟩
  refine q_drop (v := .non) (ev_call (ea_cons (ev_var rfl) ea_nil) fun G e Q2 q E2 => ⟨l, rows, rfl, hV.ex e, hF.z, hnm, hF.nd, fun w hw => (hF.fit w hw).1, q⟩) fun H1 e1 => ?_
  refine q_drop (v := .non) (ev_call (ea_cons (ev_var rfl) (ea_cons (ev_var rfl) ea_nil)) fun G e Q2 q E2 => ⟨l, p, rows, nd, rfl, hV.ex (e1.trans e), hF.z, hF.nd, hT.ex (e1.trans e), hI.wf, hI.sz, hI.vs, hI.nn, q⟩) fun H2 e2 => ?_
  have e12 := e1.trans e2
  refine q_raw' (op_raw (?_ : tCall _ _ _ _ _ _ _))
  refine spans_rows (K := K) rfl rfl (hV.ex e12) hF (hT.ex e12) hI fun R H3 ps q lo hi e3 hl hq hsp => ?_
  refine (ev_un ev_c ru_neg) H3 (Ex.refl H3) _ fun H4 e4 => ?_
  refine ⟨R, _, _, _, rfl, rfl, sq_of (e4 _ _ hl), atI_last _ _, ?_⟩
  have hq4 := e4 _ _ hq
  rw [hE] at hq4
  refine ⟨q, _, rfl, st_of hq4, rfl, _, _, rfl, _, _, rfl, rfl, ?_⟩
  dsimp only [List.set]
  have e14 := (e12.trans e3).trans e4
  refine ret_raw (?_ : tTup _ _ _ _)
  refine (eu_tup (ea_cons (ev_var rfl) (ea_cons (ev_notV (a := decide (lo = 1)) (ev_var rfl)) ea_nil)) (by show 2 ≤ _; decide)) H4 (Ex.refl H4) _ fun r H5 n5 e5 h5 => ?_
  exact hQ r lo hi H5 (e14.trans e5) h5 hsp

theorem sc__law_bag : FnScope ["script", "blend", "great", "cell"] ["script"] (defScope s__law_bag) := ⟨rfl, rfl, rfl, by decide +kernel, rfl, by decide +kernel, by decide +kernel⟩
theorem ok__law_bag (D : Df K mg "_law_bag" s__law_bag ["script"] f fd) (ca : mg "abs" = none) : FnG P w K mg base CX0 1 f fd ["script"] (spBagA K) := by
  refine df_ok D sc__law_bag (fun vs H Q E h => by obtain ⟨a, ns, rfl, _⟩ := h; rfl) (fun cdv A outer s H vs Q E hG hr h => ?_)
  obtain ⟨a, ns, rfl, hS, hlen, hQ⟩ := h
  have nd := sc__law_bag.nd
  refine ⟨_, pss_cons (ps_par (i := 1) (j := 2) rfl nd rfl rfl (by decide) rfl rfl (pa_cons pe_int (pa_cons (pe_lst pa_nil) pa_nil)) (by rfl))
    (pss_cons (ps_for PassesOwn.never rfl (pi_list (pv 0)) (pg_name (i := 3) nd rfl (.inl rfl))
      (pss_cons (ps_set (i := 1) nd rfl (.inl rfl) (pe_op op_mod (pe_op op_add (pe_op op_mul (pv 1) pe_int) (pv 3)) pe_int))
      (pss_one (ps_if (pt_cmpR op_ge (pe_callB call_abs (by rfl) ca (by decide +kernel) (pa_cons (pv 3) pa_nil)) (pe_op op_pow pe_int pe_int) (nomark _))
          (pss_one (ps_expr (pe_bm PySem.F.plainAttrs_list PySem.F.slot_list_append PySem.F.type_list_append mt_append (pv 2) (pa_cons (pe_callB call_abs (by rfl) ca (by decide +kernel) (pa_cons (pv 3) pa_nil)) pa_nil)))) pss_nil))))
    (pss_one (ps_ret (pe_disp (pps_cons pe_str (pv 2) (pps_cons pe_str pe_int (pps_cons pe_str pe_int (pps_cons pe_str (pv 1) pps_nil)))) rfl rfl (by simp) (by simp))))), ?_⟩
  refine par_raw (?_ : tCons (tC _) _ _ _ _)
  refine ea_at ev_c fun H0 e0 => ?_
  refine (?_ : tCons (tLst _) _ _ _ _)
  refine ea_atL (el_lst ea_nil (by decide)) fun l H1 nl e1 hl => ⟨_, _, rfl, ?_⟩
  dsimp only [List.set]
  have nl0 : H l = none := fresh_back e0 nl
  have S1 := ex_l (e0.trans e1) hS
  refine q_forLn (a := a) (xs := ns.map V.int) (ev_var rfl) S1 (fun i σ H3 => Ex H H3 ∧ ∃ (gs : List Int) (bl : Int) (y3 : Option V), H3 l = some (.lst (gs.map V.int)) ∧ gs.length ≤ i ∧ 0 ≤ bl ∧ bl < 2305843009213693951 ∧ σ = [some (.ref a), some (.int bl), some (.ref l), y3]) ?_ ?_ ?_ ?_
  · exact fun H2 e2 => ⟨(e0.trans e1).trans e2, [], 11, none, e2 _ _ hl, Nat.le_refl _, by decide, by decide, rfl⟩
  · exact fun i σ H3 _ hp => ex_l hp.1 hS
  · intro i x σ H3 hx hp
    obtain ⟨e3, gs, bl, y3, h3, g3, b0, b1, rfl⟩ := hp
    rw [List.getElem?_map] at hx
    obtain ⟨z, hz, rfl⟩ := Option.map_eq_some_iff.mp hx
    have hi : i < 63 := by
      have := (List.getElem?_eq_some_iff.mp hz).1
      omega
    have ab : ∀ {σ : L2.St} {G : Hp}, σ[3]? = some (some (.int z)) → Ev (tCB rAbs_ (tCons (tVar 3) tNil)) σ G (.int (if z < 0 then -z else z)) := fun h => ev_cb (ea_cons (ev_var h) ea_nil) fun H1 _ Q1 q1 => ⟨z, rfl, q1 H1 (Ex.refl H1)⟩
    refine q_asg (ev_op (ev_op (ev_op (ev_var rfl) ev_c (rv_I (.inr ⟨by decide, by decide⟩))) (ev_var rfl) rv_I0) ev_c (rv_I (by decide))) fun H4 e4 => ?_
    have m0 := Int.emod_nonneg (bl * 1000003 + z) (show (2305843009213693951 : Int) ≠ 0 by decide)
    have m1 := Int.emod_lt_of_pos (bl * 1000003 + z) (show (0 : Int) < 2305843009213693951 by decide)
    refine s_when (et_test (ev_op (ab (σ := [some (.ref a), some (.int ((bl * 1000003 + z) % 2305843009213693951)), some (.ref l), some (.int z)]) rfl) (ev_op ev_c ev_c (rv_I ⟨by decide, by decide, by decide⟩)) rv_I0)) (fun hb H5 e5 => ?_) (fun hb H5 e5 => ?_)
    · refine s_app (xs := gs.map V.int) (e5 _ _ (e4 _ _ h3)) (ev_var rfl) (ab rfl) (by rw [List.length_map]; omega) fun H6 e6 => ?_
      exact ⟨Ex.mut (((e3.trans e4).trans e5).trans e6) nl0, gs ++ [if z < 0 then -z else z], _, _, by rw [upd_same, List.map_append]; rfl, by rw [List.length_append]; simp only [List.length_cons, List.length_nil]; omega, m0, m1, rfl⟩
    · exact ⟨(e3.trans e4).trans e5, gs, _, _, e5 _ _ (e4 _ _ h3), by omega, m0, m1, rfl⟩
  · intro σ H3 hp
    obtain ⟨e3, gs, bl, y3, h3, g3, b0, b1, rfl⟩ := hp
    rw [List.length_map] at g3
    refine ret_raw (?_ : tDisp _ _ _ _)
    intro p np
    have el : Ex H3 (upd H3 p (.dK [])) := Ex.new np
    refine ⟨_, rfl, _, rfl, upd_same, bagL l 0 0 bl, rfl, (by show 4 ≤ 15; decide), ?_⟩
    have em : mergeK [] (bagL l 0 0 bl) = bagL l 0 0 bl := rfl
    rw [em, upd_upd]
    have e2 : Ex H3 (upd H3 p (.dK (bagL l 0 0 bl))) := Ex.new np
    exact hQ p l _ (fresh_back e3 np) nl0 (e3.trans e2) ⟨gs, 0, 0, bl, upd_same, e2 _ _ h3, by decide, by decide, b0, b1, by omega⟩

theorem sc__law_draw : FnScope ["bag", "many", "drawn", "turn", "mixed"] ["bag", "many"] (defScope s__law_draw) := ⟨rfl, rfl, rfl, by decide +kernel, rfl, by decide +kernel, by decide +kernel⟩
theorem ok__law_draw (D : Df K mg "_law_draw" s__law_draw ["bag", "many"] f fd) (cle : mg "len" = none) : FnG P w K mg base CX0 1 f fd ["bag", "many"] spBD := by
  refine df_ok D sc__law_draw (fun vs H Q E h => by obtain ⟨bg, gl, many, n, rfl, _⟩ := h; rfl) (fun cdv A outer s H vs Q E hG hr h => ?_)
  obtain ⟨bg, l, many, n, rfl, m0, m1, hn, hB, hQ⟩ := h
  have nd := sc__law_draw.nd
  have hu : A.units + 3 + 64 < cLine := hr.units
  have hu1 : A.units + 3 + 1 < cLine := by omega
  refine ⟨_, pss_cut (ps_if (PW.pt (pw_and (pt_cmpR op_lt (pe_dget hu1 (pv 0) pe_str (fun _ _ => rfl)) (pv 1) (nomark _)) (pw_and1 (pt_cmpR op_gt (pe_callB call_len_seq (by rfl) cle PySem.boot_len (pa_cons (pe_dget hu1 (pv 0) pe_str (fun _ _ => rfl)) pa_nil)) pe_int (nomark _)))))
      (pss_one (ps_dput hu1 (pv 0) pe_str (pe_bm PySem.F.plainAttrs_list PySem.F.slot_list_pop PySem.F.type_list_pop mt_popAt (pe_dget hu1 (pv 0) pe_str (fun _ _ => rfl)) (pa_cons pe_int pa_nil)) (by rfl))) pss_nil)
    (pss_cons (ps_if (pt_cmpR op_ge (pe_dget hu1 (pv 0) pe_str (fun _ _ => rfl)) (pv 1) (nomark _))
      (pss_cons (ps_set (i := 2) nd rfl (.inl rfl) (pe_op op_mod (pe_dget hu1 (pv 0) pe_str (fun _ _ => rfl)) (pv 1)))
      (pss_cons (ps_dput hu1 (pv 0) pe_str (pe_op op_fdivW (pe_dget hu1 (pv 0) pe_str (fun _ _ => rfl)) (pv 1)) (by rfl))
      (pss_one (ps_ret (pv 2))))) pss_nil)
    (pss_cons (ps_daug hu1 (pv 0) pe_str pe_int in_add (fun _ _ _ => rfl))
    (pss_cons (ps_set (i := 3) nd rfl (.inl rfl) (pe_dget hu1 (pv 0) pe_str (fun _ _ => rfl)))
    (pss_cons (ps_set (i := 4) nd rfl (.inl rfl) (pe_op op_add (pe_op op_mulW (pe_op op_add (pe_dget hu1 (pv 0) pe_str (fun _ _ => rfl)) (pe_op op_mul pe_int (pv 3))) (pe_op op_powW (pe_op op_add (pv 3) pe_int) pe_int)) (pe_op op_mul pe_int (pv 3))))
    (pss_one (ps_ret (pe_op op_mod (pe_op op_fdivW (pe_op op_mod (pe_op op_powW (pe_op op_mod (pv 4) pe_int) pe_int) (pe_op op_add (pe_op op_pow pe_int pe_int) pe_int)) pe_int) (pv 1)))))))), ?_⟩
  have gr : ∀ {l : Addr} {left t bl : Int}, valV (bagL l left t bl) (.inr "great") = some (.ref l) := rfl
  have le : ∀ {l : Addr} {left t bl : Int}, valV (bagL l left t bl) (.inr "left") = some (.int left) := rfl
  have tu : ∀ {l : Addr} {left t bl : Int}, valV (bagL l left t bl) (.inr "turn") = some (.int t) := rfl
  have be : ∀ {l : Addr} {left t bl : Int}, valV (bagL l left t bl) (.inr "blend") = some (.int bl) := rfl
  have pl : ∀ {l : Addr} {left t bl x : Int}, putK (bagL l left t bl) (.inr "left") (.int x) = bagL l x t bl := rfl
  have pt : ∀ {l : Addr} {left t bl x : Int}, putK (bagL l left t bl) (.inr "turn") (.int x) = bagL l left x bl := rfl
  have nt : ∀ {xs : List V} {kvs : List (Key × V)}, HO.dK kvs ≠ .tup xs := fun z => nomatch z
  refine q_cut (M := fun σ' H' => Bg bg l H H' ∧ BagA H' bg l n ∧ σ' = [some (.ref bg), some (.int many), none, none, none]) ?_ ?_
  · obtain ⟨gs, left, t, bl, hb, hl, t0, t1, b0, b1, g100⟩ := hB
    refine s_if (b := decide (left < many) && decide (((gs.map V.int).length : Int) > 0)) (et_and (et_test (ev_op (ev_dgetK (ev_var rfl) hb le) (ev_var rfl) rv_I0)) fun _ => et_test (ev_op (ev_len (ev_dgetK (ev_var rfl) hb gr) (sq_of hl)) ev_c rv_I0)) (fun hc H1 e1 => ?_) (fun hc H1 e1 => ⟨Bg.of e1, ⟨gs, left, t, bl, e1 _ _ hb, e1 _ _ hl, t0, t1, b0, b1, g100⟩, rfl⟩)
    rw [Bool.and_eq_true] at hc
    have hg := of_decide_eq_true hc.2
    match gs, hl, hg, g100 with
    | g :: gs, hl, _, g100 =>
      have nlb : l ≠ bg := fun z => by rw [z, hb] at hl; exact nomatch hl
      refine (?_ : tBM _ _ _ _ _ _ _ _)
      refine (ev_dgetK (ta := tVar 0) (ev_var rfl) (e1 _ _ hb) gr) H1 (Ex.refl H1) _ fun H2 e2 => ?_
      have hl2 := e2 _ _ (e1 _ _ hl)
      have hb2 := e2 _ _ (e1 _ _ hb)
      refine ⟨.inl ⟨rfl, _, sq_of hl2⟩, l, _, 0, 0, .int g, rfl, rfl, hl2, by decide, by decide, ?_, rfl, ?_⟩
      · simp [seqIndex?]
      have hb3 : (upd H2 l (.lst (((g :: gs).map V.int).eraseIdx 0))) bg = some (.dK (bagL l left t bl)) := by rw [upd_ne (Ne.symm nlb)]; exact hb2
      refine ⟨_, rfl, bg, _, rfl, DPut.k (k := .inr "left") hb3 (by show 4 < sizeLine; decide), ?_⟩
      rw [pl]
      refine ⟨(Bg.of (e1.trans e2)).trans ((Bg.upl).trans (Bg.upb)), ⟨gs, g, t, bl, upd_same, by rw [upd_ne nlb, upd_same]; rfl, t0, t1, b0, b1, by simp only [List.length_cons] at g100; omega⟩, rfl⟩
  · intro σ' H1 hM
    obtain ⟨k1, hB1, rfl⟩ := hM
    obtain ⟨gs, left, t, bl, hb, hl, t0, t1, b0, b1, g100⟩ := hB1
    refine q_when (b := decide (left ≥ many)) (et_test (ev_op (ev_dgetK (ev_var rfl) hb le) (ev_var rfl) rv_I0)) (fun hc H2 e2 => ?_) (fun hc H2 e2 => ?_)
    · have hb2 := e2 _ _ hb
      refine q_asg (ev_op (ev_dgetK (ev_var rfl) hb2 le) (ev_var rfl) (rv_I m0)) fun H3 e3 => ?_
      have hb3 := e3 _ _ hb2
      refine q_dputK (v := .int (left / many)) (ev_op (ev_dgetK (ev_var rfl) hb3 le) (ev_var rfl) (rv_I ⟨m0, log_small m1⟩)) (ev_var rfl) hb3 (by show 4 < 100000; decide) fun H4 e4 => ?_
      rw [pl]
      have hl4 := e4 _ _ (e3 _ _ (e2 _ _ hl))
      have nlb : l ≠ bg := fun z => by rw [z, hb] at hl; exact nomatch hl
      refine s_ret (ev_var rfl) fun H5 e5 => ?_
      refine hQ H5 _ ((k1.trans (Bg.of ((e2.trans e3).trans e4))).trans (Bg.upb.trans (Bg.of e5))) ⟨gs, left / many, t, bl, e5 _ _ upd_same, e5 _ _ (by rw [upd_ne nlb]; exact hl4), t0, by omega, b0, b1, g100⟩ (Int.emod_nonneg _ (by omega)) (Int.emod_lt_of_pos _ m0)
    · have hb2 := e2 _ _ hb
      have nlb : l ≠ bg := fun z => by rw [z, hb] at hl; exact nomatch hl
      refine (?_ : sDAug _ _ _ _ _ _ _)
      refine ⟨_, rfl, bg, .int t, rfl, ?_, t, 1, rfl, rfl, upd H2 bg (.dK (putK (bagL l left t bl) (.inr "turn") (.int (t + 1)))), DPut.k (k := .inr "turn") hb2 (by show 4 < sizeLine; decide), ?_⟩
      · have g := DGet.k (k := .inr "turn") hb2
        rw [tu] at g
        exact g
      rw [pt]
      have hb3 : (upd H2 bg (.dK (bagL l left (t + 1) bl))) bg = some (.dK (bagL l left (t + 1) bl)) := upd_same
      have hl3 : (upd H2 bg (.dK (bagL l left (t + 1) bl))) l = some (.lst (gs.map V.int)) := by rw [upd_ne nlb]; exact e2 _ _ hl
      have k3 : Bg bg l H (upd H2 bg (.dK (bagL l left (t + 1) bl))) := (k1.trans (Bg.of e2)).trans Bg.upb
      generalize upd H2 bg (.dK (bagL l left (t + 1) bl)) = H3 at hb3 hl3 k3 ⊢
      show tSeq _ _ _ _ _
      refine q_asg (ev_dgetK (ev_var rfl) hb3 tu) fun H4 e4 => ?_
      have hb4 := e4 _ _ hb3
      have s1 : (bl + 17 * (t + 1)).natAbs < 2 ^ 62 := by omega
      have s2 : (t + 1 + 29).natAbs < 2 ^ 21 := by omega
      have s3 : ((t + 1 + 29) ^ (2 : Int).toNat).natAbs < 2 ^ 43 := by
        have e : (t + 1 + 29) ^ (2 : Int).toNat = (t + 1 + 29) * (t + 1 + 29) := by
          show (t + 1 + 29) ^ 2 = _
          rw [Int.pow_succ, Int.pow_succ, Int.pow_zero, Int.one_mul]
        rw [e, Int.natAbs_mul]
        have : (t + 1 + 29).natAbs ≤ 2097152 := by omega
        have h2 := Nat.mul_le_mul this this
        omega
      refine q_asg (ev_op (ev_op (ev_op (ev_dgetK (ev_var rfl) hb4 be) (ev_op ev_c (ev_var rfl) (rv_I (.inl ⟨by decide, by decide⟩))) rv_I0) (ev_op (ev_op (ev_var rfl) ev_c rv_I0) ev_c (rv_I ⟨by decide, by decide, by have := PySem.Flt.log2_lt_of (by decide : 0 < 21) s2; omega⟩)) (rv_I (wide_mul s1 s3 (by decide) (by decide) (by decide)))) (ev_op ev_c (ev_var rfl) (rv_I (.inl ⟨by decide, by decide⟩))) rv_I0) fun H5 e5 => ?_
      have hb5 := e5 _ _ hb4
      generalize (bl + 17 * (t + 1)) * (t + 1 + 29) ^ (2 : Int).toNat + 7919 * (t + 1) = mx
      have x0 := Int.emod_nonneg mx (show (2305843009213693951 : Int) ≠ 0 by decide)
      have x1 := Int.emod_lt_of_pos mx (show (0 : Int) < 2305843009213693951 by decide)
      have s4 : (mx % 2305843009213693951).natAbs < 2 ^ 62 := by omega
      refine s_ret (ev_op (ev_op (ev_op (ev_op (ev_op (ev_var rfl) ev_c (rv_I (by decide))) ev_c (rv_I (small_log (by decide) s4 (by decide)))) (ev_op (ev_op ev_c ev_c (rv_I ⟨by decide, by decide, by decide⟩)) ev_c rv_I0) (rv_I (by decide))) ev_c (rv_I ⟨by decide, by decide⟩)) (ev_var rfl) (rv_I m0)) fun H6 e6 => ?_
      exact hQ H6 _ (k3.trans (Bg.of ((e4.trans e5).trans e6))) ⟨gs, left, t + 1, bl, e6 _ _ hb5, e6 _ _ (e5 _ _ (e4 _ _ hl3)), by omega, by omega, b0, b1, g100⟩ (Int.emod_nonneg _ (by omega)) (Int.emod_lt_of_pos _ m0)

theorem sc__law_sorts : FnScope [] [] (defScope s__law_sorts) := ⟨rfl, rfl, rfl, by decide +kernel, rfl, by decide +kernel, by decide +kernel⟩
theorem ok__law_sorts (D : Df K mg "_law_sorts" s__law_sorts [] f fd) : FnG P w K mg base CX0 1 f fd [] (PL (preNil vKINDS)) := by
  refine df_ok D sc__law_sorts (fun vs H Q E h => by obtain ⟨xs, ⟨rfl, _⟩, _⟩ := h; rfl) (fun cdv A outer s H vs Q E hG hr h => ?_)
  obtain ⟨xs, ⟨rfl, rfl⟩, hQ⟩ := h
  refine ⟨_, pss_one (ps_ret (pe_words pe_str)), ?_⟩
  refine ret_raw (?_ : tM0 _ _ _ _ _)
  refine ⟨⟨_, rfl⟩, _, rfl, rfl, by decide +kernel, fun p np => ?_⟩
  rw [words_kinds]
  exact hQ p _ np (Ex.new np) upd_same

theorem sc__law_leaf : FnScope ["bag", "names", "amount"] ["bag", "names"] (defScope s__law_leaf) := ⟨rfl, rfl, rfl, by decide +kernel, rfl, by decide +kernel, by decide +kernel⟩
theorem ok__law_leaf (D : Df K mg "_law_leaf" s__law_leaf ["bag", "names"] f fd) (c1 : Cl P w K mg base 1 "_law_draw" ["bag", "many"] spBD) (cle : mg "len" = none) : FnG P w K mg base CX0 2 f fd ["bag", "names"] spBLeaf := by
  refine df_ok D sc__law_leaf (fun vs H Q E h => by obtain ⟨bg, gl, na, n, xs, rfl, _⟩ := h; rfl) (fun cdv A outer s H vs Q E hG hr h => ?_)
  obtain ⟨bg, gl, na, n, xs, rfl, hn, hx, p0, hQ⟩ := h
  have ndp := sc__law_leaf.nd
  refine ⟨_, (pss_cons (ps_if (PW.pt (pw_and (pt_cmpR op_gt (pe_callB call_len_seq (by rfl) cle (by decide +kernel) (pa_cons (pv 1) pa_nil)) pe_int (nomark _)) (pw_and1 (pt_cmpR op_gt (pe_cl c1 hG hr rfl (pa_cons (pv 0) (pa_cons pe_int pa_nil))) pe_int (nomark _)))))
        (pss_one (ps_ret (pe_tup (pa_cons pe_str (pa_cons (pe_bm PySem.F.plainAttrs_list PySem.F.slot_list_pop PySem.F.type_list_pop mt_popAt (pv 1) (pa_cons (pe_cl c1 hG hr rfl (pa_cons (pv 0) (pa_cons (pe_callB call_len_seq (by rfl) cle (by decide +kernel) (pa_cons (pv 1) pa_nil)) pa_nil))) pa_nil)) pa_nil))))) pss_nil) (pss_cons (ps_set (i := 2) ndp rfl (.inl rfl) (pe_ix ix_tup (pe_tup (pa_cons (pe_cl c1 hG hr rfl (pa_cons (pv 0) (pa_cons pe_int pa_nil))) (pa_cons (pe_cl c1 hG hr rfl (pa_cons (pv 0) (pa_cons pe_int pa_nil))) (pa_cons (pe_cl c1 hG hr rfl (pa_cons (pv 0) (pa_cons (pe_op op_pow pe_int pe_int) pa_nil))) pa_nil)))) (pe_op op_fdivW (pe_cl c1 hG hr rfl (pa_cons (pv 0) (pa_cons pe_int pa_nil))) pe_int) (fun _ _ => rfl))) (pss_one (ps_ret (pe_tup (pa_cons pe_str (pa_cons (pv 2) (pa_cons (pe_ix ix_tup (pe_tup (pa_cons pe_str (pa_cons pe_str (pa_cons pe_str (pa_cons pe_str (pa_cons pe_str (pa_cons pe_str (pa_cons pe_str (pa_cons pe_str pa_nil))))))))) (pe_cl c1 hG hr rfl (pa_cons (pv 0) (pa_cons pe_int pa_nil))) (fun _ _ => rfl)) pa_nil)))))))), ?_⟩
  have hxl : (xs.map V.str).length = xs.length := List.length_map ..
  refine if_raw (cond_go (fun c H1 => Bs bg gl na H H1 ∧ BP H1 bg gl na (n + 1) xs ∧ (c = true → xs ≠ [])) (fun KK hK => ?_) (fun c H1 hP => ?_))
  · refine and_raw ((et_test (ev_op (ev_len (ev_var rfl) (sq_of p0.h)) ev_c rv_I0)) H (Ex.refl H) _ fun H1 e1 => ?_)
    by_cases hx : xs = []
    · rw [hx]
      exact hK _ _ ⟨.of e1, (p0.ex e1).le (by omega), (fun z => nomatch z)⟩
    · have hpos : 0 < xs.length := List.length_pos_iff.mpr hx
      rw [if_pos (decide_eq_true (by rw [hxl]; omega))]
      refine test_raw (op_raw (bp_at (l := 5) (n := n) (ea_cons (ev_var rfl) (ea_cons ev_c ea_nil)) (by decide) (by decide) (by omega) (p0.ex e1) fun H3 v b3 p3 v0 v1 => ⟨_, _, rfl, rfl, _, rfl, hK _ _ ⟨(Bs.of e1).trans b3, p3, fun _ => hx⟩⟩))
  obtain ⟨b1, p1, hxs⟩ := hP
  cases c with
  | true =>
    rw [if_pos rfl]
    have hx0 := hxs rfl
    have hpos : 0 < xs.length := List.length_pos_iff.mpr hx0
    refine ret_raw (tup_raw (ea_at ev_c fun H2 e2 => ?_))
    have p2 := p1.ex e2
    refine (?_ : tBM _ _ _ _ _ _ _ _)
    refine pop_raw (i := 1) rfl p2.h (?_ : tCons _ _ _ _ _)
    refine (?_ : tCall _ _ _ _ _ _ _)
    refine bp_at (l := (xs.length : Int)) (n := n + 1) (ea_cons (ev_var rfl) (ea_cons (ev_is (ev_len (ev_var rfl) (sq_of p2.h)) (by rw [hxl])) ea_nil)) (by omega) (by omega) (by omega) p2 fun H3 v b3 p3 v0 v1 => ?_
    obtain ⟨k, rfl⟩ : ∃ k : Nat, v = (k : Int) := ⟨v.toNat, by omega⟩
    have hk : k < xs.length := by omega
    refine ⟨na, xs.map V.str, (k : Int), k, .str xs[k], rfl, rfl, p3.h, by omega, by omega, seq_ix (by rw [hxl]; exact hk), by rw [List.getElem?_map, List.getElem?_eq_getElem hk]; rfl, by show 2 ≤ sizeLine; decide, fun p np => ?_⟩
    obtain ⟨p4, b4⟩ := p3.pop (k := k)
    refine hQ p (.var xs[k]) (xs.eraseIdx k) _ ((b1.trans (.of e2)).trans (b3.trans (b4.trans (.of (Ex.new np))))) ((p4.ex (Ex.new np)).le (by omega)) upd_same rfl rfl ⟨trivial, by show 1 ≤ _; omega, fun _ => Nat.le_refl _, erase_perm xs k hk, nF_leaf (Nat.le_refl 1), trivial⟩
  | false =>
    rw [if_neg (by decide)]
    refine next_raw ?_
    dsimp only
    refine q_raw (op_raw (tup_raw (?_ : tCons _ _ _ _ _)))
    refine (?_ : tCall _ _ _ _ _ _ _)
    refine bp_at (l := 5) (n := n + 1) (ea_cons (ev_var rfl) (ea_cons ev_c ea_nil)) (by decide) (by decide) (by omega) p1 fun H2 x1 b2 p2 x10 x11 => ?_
    refine (?_ : tCons _ _ _ _ _)
    refine (?_ : tCall _ _ _ _ _ _ _)
    refine bp_at (l := 20) (n := n + 1 + 1) (ea_cons (ev_var rfl) (ea_cons ev_c ea_nil)) (by decide) (by decide) (by omega) p2 fun H3 x2 b3 p3 x20 x21 => ?_
    refine (?_ : tCons _ _ _ _ _)
    refine (?_ : tCall _ _ _ _ _ _ _)
    refine bp_at (l := 10 ^ 6) (n := n + 1 + 1 + 1) (ea_cons (ev_var rfl) (ea_cons (ev_op ev_c ev_c (rv_I ⟨by decide, by decide, by decide⟩)) ea_nil)) (by decide) (by decide) (by omega) p3 fun H4 x3 b4 p4 x30 x31 => ?_
    refine (?_ : tNil _ _ _)
    refine (⟨by show 3 ≤ sizeLine; decide, fun tq ntq => ?_⟩ : _ ∧ _)
    refine op_raw (?_ : tCall _ _ _ _ _ _ _)
    have e5 : Ex H4 (upd H4 tq (.tup [.int x1, .int x2, .int x3])) := Ex.new ntq
    have h5 : (upd H4 tq (.tup [.int x1, .int x2, .int x3])) tq = some (.tup [.int x1, .int x2, .int x3]) := upd_same
    generalize upd H4 tq (.tup [.int x1, .int x2, .int x3]) = H5 at e5 h5 ⊢
    refine bp_at (l := 12) (n := n + 1 + 1 + 1 + 1) (ea_cons (ev_var rfl) (ea_cons ev_c ea_nil)) (by decide) (by decide) (by omega) (p4.ex e5) fun H6 x4 b6 p6 x40 x41 => ?_
    have h6 := b6 _ _ ((p4.ex e5).nt h5).1 ((p4.ex e5).nt h5).2.1 ((p4.ex e5).nt h5).2.2 h5
    obtain ⟨i4, rfl⟩ : ∃ i : Nat, x4 = (i : Int) := ⟨x4.toNat, by omega⟩
    have hq4 : (i4 : Int) / 5 = ((i4 / 5 : Nat) : Int) := rfl
    have hi4 : i4 / 5 < 3 := by omega
    refine ⟨(i4 : Int), 5, rfl, rfl, ⟨by decide, by decide⟩, ?_⟩
    obtain ⟨am, ham, am0, am1⟩ : ∃ am : Int, [V.int x1, V.int x2, V.int x3][i4 / 5]? = some (.int am) ∧ 0 ≤ am ∧ am < 2 ^ 20 := by
      have : i4 / 5 = 0 ∨ i4 / 5 = 1 ∨ i4 / 5 = 2 := by omega
      rcases this with h | h | h
      · exact ⟨x1, by rw [h]; rfl, x10, by omega⟩
      · exact ⟨x2, by rw [h]; rfl, x20, by omega⟩
      · have h6 : (10 : Int) ^ 6 = 1000000 := by decide
        exact ⟨x3, by rw [h]; rfl, x30, by omega⟩
    refine ⟨tq, _, _, .int am, rfl, rfl, st_of h6, by rw [hq4]; exact atI_nat ham, ?_⟩
    dsimp only [List.set]
    refine ret_raw (tup_raw (ea_at ev_c fun H7 e7 => ea_at (ev_var rfl) fun H8 e8 => ?_))
    refine (?_ : tCons _ _ _ _ _)
    have p8 := p6.ex (e7.trans e8)
    refine tup_pick (m := 8) (xs := bsuf.map V.str) (ea_cons ev_c (ea_cons ev_c (ea_cons ev_c (ea_cons ev_c (ea_cons ev_c (ea_cons ev_c (ea_cons ev_c (ea_cons ev_c ea_nil)))))))) (by decide) (by decide) (by decide) p8 (by omega) (fun H1 e1 => ea_cons (ev_var rfl) (ea_cons ev_c ea_nil)) fun H9 v i b9 p9 hv => ?_
    rw [List.getElem?_map] at hv
    obtain ⟨s, hs, rfl⟩ := Option.map_eq_some_iff.mp hv
    have hsm := bsuf_ok s (List.mem_of_getElem? hs)
    refine (?_ : tNil _ _ _)
    refine (⟨by show 3 ≤ sizeLine; decide, fun p np => ?_⟩ : _ ∧ _)
    refine hQ p (.lit am s) xs _ ?_ ((p9.ex (Ex.new np)).le (by omega)) upd_same rfl rfl ⟨⟨am0, by omega, hsm⟩, by show 1 ≤ _; omega, fun _ => Nat.le_refl _, List.Perm.refl _, nF_leaf (Nat.le_refl 1), am1⟩
    exact (b1.trans (b2.trans (b3.trans (b4.trans (.of e5))))).trans (b6.trans ((Bs.of (e7.trans e8)).trans (b9.trans (.of (Ex.new np)))))

theorem sc__law_tree : FnScope ["bag", "names", "room", "kind_now", "part", "test", "one"] ["bag", "names", "room"] (defScope s__law_tree) := ⟨rfl, rfl, rfl, by decide +kernel, rfl, by decide +kernel, by decide +kernel⟩
theorem step__law_tree {k d : Nat} (D : Df K mg "_law_tree" s__law_tree ["bag", "names", "room"] f fd) (hk : 2 ≤ k) (c1 : Cl P w K mg base 1 "_law_draw" ["bag", "many"] spBD) (cl : Cl P w K mg base 2 "_law_leaf" ["bag", "names"] spBLeaf) (cs : Cl P w K mg base 1 "_law_sorts" [] (PL (preNil vKINDS))) (ct : Cl P w K mg base k "_law_tree" ["bag", "names", "room"] (spBT true d)) (ce : Cl P w K mg base k "_law_test" ["bag", "names", "room"] (spBT false d)) : FnG P w K mg base CX0 (k + 1) f fd ["bag", "names", "room"] (spBT true (d + 1)) := by
  refine df_ok D sc__law_tree (fun vs H Q E h => by obtain ⟨bg, gl, na, n, xs, r, rfl, _⟩ := h; rfl) (fun cdv A outer s H vs Q E hG hr h => ?_)
  obtain ⟨bg, gl, na, n, xs, r, rfl, r1, rd, hn, hx, p0, hQ⟩ := h
  have ndp := sc__law_tree.nd
  have hk1 : 1 ≤ k := by omega
  have kk : k ≤ k := Nat.le_refl _
  refine ⟨_, (pss_cons (ps_if (PW.pt (pw_or (pt_cmpR op_lt (pv 2) pe_int (nomark _)) (pw_or1 (pt_cmpR op_eq (pe_cl c1 hG hr rfl (pa_cons (pv 0) (pa_cons pe_int pa_nil)) hk1) pe_int (nomark _))))) (pss_one (ps_ret (pe_cl cl hG hr rfl (pa_cons (pv 0) (pa_cons (pv 1) pa_nil)) hk))) pss_nil) (pss_cons (ps_set (i := 3) ndp rfl (.inl rfl) (pe_cl c1 hG hr rfl (pa_cons (pv 0) (pa_cons pe_int pa_nil)) hk1)) (pss_cons (ps_if (pt_cmpR op_eq (pv 3) pe_int (nomark _)) (pss_one (ps_ret (pe_tup (pa_cons pe_str (pa_cons (pe_cl ct hG hr rfl (pa_cons (pv 0) (pa_cons (pv 1) (pa_cons (pe_op op_sub (pv 2) pe_int) pa_nil))) kk) pa_nil))))) pss_nil) (pss_cons (ps_if (pt_cmpR op_eq (pv 3) pe_int (nomark _)) (pss_one (ps_ret (pe_tup (pa_cons pe_str (pa_cons (pe_ix ix_list (pe_cl0 cs hG hr rfl hk1) (pe_cl c1 hG hr rfl (pa_cons (pv 0) (pa_cons pe_int pa_nil)) hk1) (fun _ _ => rfl)) (pa_cons (pe_cl ct hG hr rfl (pa_cons (pv 0) (pa_cons (pv 1) (pa_cons (pe_op op_sub (pv 2) pe_int) pa_nil))) kk) pa_nil)))))) pss_nil) (pss_cons (ps_if (pt_cmpR op_eq (pv 3) pe_int (nomark _)) (pss_one (ps_ret (pe_tup (pa_cons (pe_ix ix_tup (pe_tup (pa_cons pe_str (pa_cons pe_str pa_nil))) (pe_cl c1 hG hr rfl (pa_cons (pv 0) (pa_cons pe_int pa_nil)) hk1) (fun _ _ => rfl)) (pa_cons (pe_cl ct hG hr rfl (pa_cons (pv 0) (pa_cons (pv 1) (pa_cons (pe_op op_sub (pv 2) pe_int) pa_nil))) kk) (pa_cons (pe_cl c1 hG hr rfl (pa_cons (pv 0) (pa_cons pe_int pa_nil)) hk1) pa_nil)))))) pss_nil) (pss_cons (ps_if (PW.pt (pw_and (pt_cmpR op_lt (pv 3) pe_int (nomark _)) (pw_and1 (pt_cmpR op_ge (pv 2) pe_int (nomark _)))))
        (pss_cons (ps_set (i := 4) ndp rfl (.inl rfl) (pe_op op_fdivW (pe_op op_sub (pv 2) pe_int) pe_int)) (pss_cons (ps_set (i := 5) ndp rfl (.inl rfl) (pe_cl ce hG hr rfl (pa_cons (pv 0) (pa_cons (pv 1) (pa_cons (pv 4) pa_nil))) kk)) (pss_cons (ps_set (i := 6) ndp rfl (.inl rfl) (pe_cl ct hG hr rfl (pa_cons (pv 0) (pa_cons (pv 1) (pa_cons (pv 4) pa_nil))) kk)) (pss_one (ps_ret (pe_tup (pa_cons pe_str (pa_cons (pv 5) (pa_cons (pv 6) (pa_cons (pe_cl ct hG hr rfl (pa_cons (pv 0) (pa_cons (pv 1) (pa_cons (pv 4) pa_nil))) kk) pa_nil)))))))))) pss_nil) (pss_cons (ps_if (pt_cmpR op_lt (pv 2) pe_int (nomark _)) (pss_one (ps_ret (pe_cl cl hG hr rfl (pa_cons (pv 0) (pa_cons (pv 1) pa_nil)) hk))) pss_nil) (pss_cons (ps_set (i := 6) ndp rfl (.inl rfl) (pe_cl ct hG hr rfl (pa_cons (pv 0) (pa_cons (pv 1) (pa_cons (pe_op op_fdivW (pe_op op_sub (pv 2) pe_int) pe_int) pa_nil))) kk)) (pss_one (ps_ret (pe_tup (pa_cons (pe_ix ix_tup (pe_tup (pa_cons pe_str (pa_cons pe_str (pa_cons pe_str (pa_cons pe_str (pa_cons pe_str pa_nil)))))) (pe_cl c1 hG hr rfl (pa_cons (pv 0) (pa_cons pe_int pa_nil)) hk1) (fun _ _ => rfl)) (pa_cons (pv 6) (pa_cons (pe_cl ct hG hr rfl (pa_cons (pv 0) (pa_cons (pv 1) (pa_cons (pe_op op_fdivW (pe_op op_sub (pv 2) pe_int) pe_int) pa_nil))) kk) pa_nil)))))))))))))), ?_⟩
  have hw1 : wt true = 1 := rfl
  have hw0 : wt false = 3 := rfl
  rw [hw1] at hn
  have i1 : ∀ {G : Hp} {y3 y4 y5 y6 : Option V}, 2 ≤ r → Ev (tOp (rI0 fun i j => V.int (i - j)) (tVar 2) (tC (.int 1))) [some (.ref bg), some (.ref na), some (.int (r : Nat)), y3, y4, y5, y6] G (.int ((r - 1 : Nat) : Int)) := fun h => ev_is (ev_op (ev_var rfl) ev_c rv_I0) (by congr 1; omega)
  have id2 : ∀ {G : Hp} {y3 y4 y5 y6 : Option V} {m : Nat}, 1 ≤ r → 0 < m → m < 100 → Ev (tOp (rI CDivW fun i j => V.int (i / j)) (tOp (rI0 fun i j => V.int (i - j)) (tVar 2) (tC (.int 1))) (tC (.int (m : Nat)))) [some (.ref bg), some (.ref na), some (.int (r : Nat)), y3, y4, y5, y6] G (.int (((r - 1) / m : Nat) : Int)) := fun {G y3 y4 y5 y6 m} h hm hm2 => ev_is (ev_op (ev_op (ev_var rfl) ev_c rv_I0) ev_c (rv_I ⟨by omega, log_small (by omega)⟩)) (by
    congr 1
    have : (r : Int) - 1 = ((r - 1 : Nat) : Int) := by omega
    rw [this]
    rfl)
  have leafR : ∀ {G : Hp} {m : Nat} {y3 : Option V}, Bs bg gl na H G → BP G bg gl na m xs → m ≤ n + 2 → tCall spBLeaf [] E0 (tCons (tVar 0) (tCons (tVar 1) tNil)) [some (.ref bg), some (.ref na), some (.int (r : Nat)), y3, none, none, none] G Q := fun {G m y3} b p hm =>
    bl_at (r := r) (ea_cons (ev_var rfl) (ea_cons (ev_var rfl) ea_nil)) r1 (by omega) hx p fun q nd ys G2 b2 p2 t e s o => hQ q nd ys G2 (b.trans b2) (p2.le (by rw [s]; omega)) t e o
  refine if_raw (cond_go (fun c H1 => Bs bg gl na H H1 ∧ BP H1 bg gl na (n + 1) xs ∧ (c = false → 2 ≤ r)) (fun KK hK => ?_) (fun c H1 hP => ?_))
  · refine or_raw ((et_test (ev_op (ev_var rfl) ev_c rv_I0)) H (Ex.refl H) _ fun H1 e1 => ?_)
    by_cases h2 : r < 2
    · rw [decide_eq_true (by omega : (r : Int) < 2), if_pos rfl]
      exact hK _ _ ⟨.of e1, (p0.ex e1).le (by omega), (fun z => nomatch z)⟩
    · rw [decide_eq_false (by omega : ¬ (r : Int) < 2), if_neg (by decide)]
      refine test_raw (op_raw (bp_at (l := 6) (n := n) (ea_cons (ev_var rfl) (ea_cons ev_c ea_nil)) (by decide) (by decide) (by omega) (p0.ex e1) fun H3 v b3 p3 v0 v1 => ⟨rfl, _, rfl, hK _ _ ⟨(Bs.of e1).trans b3, p3, fun _ => by omega⟩⟩))
  obtain ⟨b1, p1, hr2⟩ := hP
  cases c with
  | true =>
    rw [if_pos rfl]
    exact ret_raw (leafR b1 p1 (by omega))
  | false =>
    rw [if_neg (by decide)]
    have r2 := hr2 rfl
    refine next_raw ?_
    dsimp only
    refine q_raw (bp_at (l := 10) (n := n + 1) (ea_cons (ev_var rfl) (ea_cons ev_c ea_nil)) (by decide) (by decide) (by omega) p1 fun H2 kn b2 p2 kn0 kn1 => ?_)
    try dsimp only [List.set]
    have b02 := b1.trans b2
    refine q_when (b := decide (V.int kn = V.int 0)) (et_test (ev_op (ev_var rfl) ev_c (rv_eq rfl))) (fun hb H3 e3 => ?_) (fun hb H3 e3 => ?_)
    · refine ret_raw (tup_raw (ea_at ev_c fun H4 e4 => ?_))
      refine (?_ : tCons _ _ _ _ _)
      refine bt_at (r := r - 1) (ea_cons (ev_var rfl) (ea_cons (ev_var rfl) (ea_cons (i1 r2) ea_nil))) (by omega) (by omega) (by rw [hw1]; omega) hx (p2.ex (e3.trans e4)) fun q e ys H5 b5 p5 t5 he o5 => ?_
      refine (?_ : tNil _ _ _)
      refine (⟨by show 2 ≤ sizeLine; decide, fun p np => ?_⟩ : _ ∧ _)
      refine hQ p (.neg e) ys _ (b02.trans ((Bs.of (e3.trans e4)).trans (b5.trans (.of (Ex.new np))))) ((p5.ex (Ex.new np)).le (by show n + 1 + 1 + 8 * e.size ≤ n + 8 * (1 + e.size); omega)) ⟨q, upd_same, t5.ex (Ex.new np)⟩ rfl (o5.one r2 ⟨he, o5.wf⟩ rfl rfl (fun _ => he) (Nat.le_add_right _ 3) o5.ls)
    have b03 := b02.trans (.of e3)
    have p3 := p2.ex e3
    refine q_when (b := decide (V.int kn = V.int 1)) (et_test (ev_op (ev_var rfl) ev_c (rv_eq rfl))) (fun hb H4 e4 => ?_) (fun hb H4 e4 => ?_)
    · refine ret_raw (tup_raw (ea_at ev_c fun H5 e5 => ?_))
      refine (?_ : tCons _ _ _ _ _)
      refine sort_pick (K := K) (p3.ex (e4.trans e5)) (by omega) (fun G e => ea_cons (ev_var rfl) (ea_cons ev_c ea_nil)) fun H6 kd b6 p6 => ?_
      refine (?_ : tCons _ _ _ _ _)
      refine bt_at (r := r - 1) (ea_cons (ev_var rfl) (ea_cons (ev_var rfl) (ea_cons (i1 r2) ea_nil))) (by omega) (by omega) (by rw [hw1]; omega) hx p6 fun q e ys H7 b7 p7 t7 he o7 => ?_
      refine (?_ : tNil _ _ _)
      refine (⟨by show 3 ≤ sizeLine; decide, fun p np => ?_⟩ : _ ∧ _)
      refine hQ p (.cast kd e) ys _ (b03.trans ((Bs.of (e4.trans e5)).trans (b6.trans (b7.trans (.of (Ex.new np)))))) ((p7.ex (Ex.new np)).le (by show n + 1 + 1 + 1 + 8 * e.size ≤ n + 8 * (1 + e.size); omega)) ⟨q, upd_same, t7.ex (Ex.new np)⟩ rfl (o7.one r2 ⟨he, o7.wf⟩ rfl rfl (fun _ => he) (Nat.le_add_right _ 3) o7.ls)
    have b04 := b03.trans (.of e4)
    have p4 := p3.ex e4
    refine q_when (b := decide (V.int kn = V.int 2)) (et_test (ev_op (ev_var rfl) ev_c (rv_eq rfl))) (fun hb H5 e5 => ?_) (fun hb H5 e5 => ?_)
    · refine ret_raw (tup_raw (?_ : tCons _ _ _ _ _))
      refine tup_pick (K := K) (m := 2) (xs := [.str "shl", .str "shr"]) (ea_cons ev_c (ea_cons ev_c ea_nil)) (by decide) rfl (by decide) (p4.ex e5) (by omega) (fun G e => ea_cons (ev_var rfl) (ea_cons ev_c ea_nil)) fun H6 v i b6 p6 hv => ?_
      obtain ⟨lf, rfl⟩ : ∃ lf : Bool, v = .str (shS lf) := by
        match i, hv with
        | 0, hv => exact ⟨true, (Option.some.inj hv).symm⟩
        | 1, hv => exact ⟨false, (Option.some.inj hv).symm⟩
        | i + 2, hv => simp at hv
      refine (?_ : tCons _ _ _ _ _)
      refine bt_at (r := r - 1) (ea_cons (ev_var rfl) (ea_cons (ev_var rfl) (ea_cons (i1 r2) ea_nil))) (by omega) (by omega) (by rw [hw1]; omega) hx p6 fun q e ys H7 b7 p7 t7 he o7 => ?_
      have hsz7 := o7.sz
      refine (?_ : tCons _ _ _ _ _)
      refine (?_ : tCall _ _ _ _ _ _ _)
      refine bp_at (l := 4) (n := n + 1 + 1 + 1 + 8 * e.size) (ea_cons (ev_var rfl) (ea_cons ev_c ea_nil)) (by decide) (by decide) (by omega) p7 fun H8 am b8 p8 am0 am1 => ?_
      refine (?_ : tNil _ _ _)
      refine (⟨by show 3 ≤ sizeLine; decide, fun p np => ?_⟩ : _ ∧ _)
      have t8 := t7.tk (p7.tk b8)
      refine hQ p (.sh lf e am) ys _ (b04.trans ((Bs.of e5).trans (b6.trans (b7.trans (b8.trans (.of (Ex.new np))))))) ((p8.ex (Ex.new np)).le (by show n + 1 + 1 + 1 + 8 * e.size + 1 ≤ n + 8 * (1 + e.size); omega)) ⟨q, upd_same, t8.ex (Ex.new np)⟩ rfl (o7.one r2 ⟨he, o7.wf, am0, by omega⟩ rfl rfl (fun _ => he) (by show e.nb + am.toNat ≤ _; omega) o7.ls)
    have b05 := b04.trans (.of e5)
    have p5 := p4.ex e5
    refine q_when (b := decide (kn < 5) && decide ((r : Int) ≥ 6)) (et_and (et_test (ev_op (ev_var rfl) ev_c rv_I0)) fun _ => et_test (ev_op (ev_var rfl) ev_c rv_I0)) (fun hb H6 e6 => ?_) (fun hb H6 e6 => ?_)
    · rw [Bool.and_eq_true] at hb
      have r6 : 6 ≤ r := by have := of_decide_eq_true hb.2; omega
      refine q_asg (v := .int (((r - 1) / 3 : Nat) : Int)) (id2 (m := 3) r1 (by decide) (by decide)) fun H7 e7 => ?_
      try dsimp only [List.set]
      have p7 := p5.ex (e6.trans e7)
      refine q_raw (bt_at (r := (r - 1) / 3) (ea_cons (ev_var rfl) (ea_cons (ev_var rfl) (ea_cons (ev_var rfl) ea_nil))) (by omega) (by omega) (by rw [hw0]; omega) hx p7 fun qc c ys H8 b8 p8 t8 hc o8 => ?_)
      try dsimp only [List.set]
      have hs8 := o8.sz
      have hl8 := o8.len
      refine q_raw (bt_at (r := (r - 1) / 3) (ea_cons (ev_var rfl) (ea_cons (ev_var rfl) (ea_cons (ev_var rfl) ea_nil))) (by omega) (by omega) (by rw [hw1]; omega) (by omega) p8 fun qe e zs H9 b9 p9 t9 he o9 => ?_)
      try dsimp only [List.set]
      have hs9 := o9.sE he
      have hl9 := o9.len
      refine ret_raw (tup_raw (ea_at ev_c fun Ha ea => ea_at (ev_var rfl) fun Hb eb => ea_at (ev_var rfl) fun Hc ec => ?_))
      have pc := p9.ex ((ea.trans eb).trans ec)
      have ebc := (ea.trans eb).trans ec
      refine (?_ : tCons _ _ _ _ _)
      refine bt_at (r := (r - 1) / 3) (ea_cons (ev_var rfl) (ea_cons (ev_var rfl) (ea_cons (ev_var rfl) ea_nil))) (by omega) (by omega) (by rw [hw1]; omega) (by omega) pc fun qf f2 ws Hd bd pd td hf od => ?_
      refine (?_ : tNil _ _ _)
      refine (⟨by show 4 ≤ sizeLine; decide, fun p np => ?_⟩ : _ ∧ _)
      have tc := ((t8.tk (p8.tk b9)).ex ebc).tk (pc.tk bd)
      have te := (t9.ex ebc).tk (pc.tk bd)
      refine hQ p (.ite c e f2) ws _ (b05.trans ((Bs.of (e6.trans e7)).trans (b8.trans (b9.trans ((Bs.of ebc).trans (bd.trans (.of (Ex.new np)))))))) ((pd.ex (Ex.new np)).le (by show n + 1 + 1 + 8 * c.size + 8 * e.size + 8 * f2.size ≤ n + 8 * (1 + c.size + e.size + f2.size); omega)) ⟨qc, qe, qf, upd_same, tc.ex (Ex.new np), te.ex (Ex.new np), td.ex (Ex.new np)⟩ rfl (o8.three o9 od r6 hc he hf)
    have b06 := b05.trans (.of e6)
    have p6 := p5.ex e6
    refine q_when (b := decide ((r : Int) < 3)) (et_test (ev_op (ev_var rfl) ev_c rv_I0)) (fun hb H7 e7 => ?_) (fun hb H7 e7 => ?_)
    · exact ret_raw (leafR (b06.trans (.of e7)) (p6.ex e7) (by omega))
    have r3 : 3 ≤ r := by have := of_decide_eq_false hb; omega
    have p7 := p6.ex e7
    refine q_raw (bt_at (r := (r - 1) / 2) (ea_cons (ev_var rfl) (ea_cons (ev_var rfl) (ea_cons (id2 (m := 2) r1 (by decide) (by decide)) ea_nil))) (by omega) (by omega) (by rw [hw1]; omega) hx p7 fun qe e ys H8 b8 p8 t8 he o8 => ?_)
    try dsimp only [List.set]
    have hs8 := o8.sE he
    have hl8 := o8.len
    refine ret_raw (tup_raw (?_ : tCons _ _ _ _ _))
    refine tup_pick (K := K) (m := 5) (xs := [.str "add", .str "sub", .str "mul", .str "add", .str "sub"]) (ea_cons ev_c (ea_cons ev_c (ea_cons ev_c (ea_cons ev_c (ea_cons ev_c ea_nil))))) (by decide) rfl (by decide) p8 (by omega) (fun G e => ea_cons (ev_var rfl) (ea_cons ev_c ea_nil)) fun H9 v i b9 p9 hv => ?_
    obtain ⟨o, rfl⟩ : ∃ o : Bo, v = .str o.s := by
      match i, hv with
      | 0, hv => exact ⟨.add, (Option.some.inj hv).symm⟩
      | 1, hv => exact ⟨.sub, (Option.some.inj hv).symm⟩
      | 2, hv => exact ⟨.mul, (Option.some.inj hv).symm⟩
      | 3, hv => exact ⟨.add, (Option.some.inj hv).symm⟩
      | 4, hv => exact ⟨.sub, (Option.some.inj hv).symm⟩
      | i + 5, hv => simp at hv
    refine ea_at (ev_var rfl) fun Ha ea => ?_
    have pa := p9.ex ea
    refine (?_ : tCons _ _ _ _ _)
    refine bt_at (r := (r - 1) / 2) (ea_cons (ev_var rfl) (ea_cons (ev_var rfl) (ea_cons (id2 (m := 2) r1 (by decide) (by decide)) ea_nil))) (by omega) (by omega) (by rw [hw1]; omega) (by omega) pa fun qf f2 zs Hb bb pb tb hf ob => ?_
    refine (?_ : tNil _ _ _)
    refine (⟨by show 3 ≤ sizeLine; decide, fun p np => ?_⟩ : _ ∧ _)
    have te := ((t8.tk (p8.tk b9)).ex ea).tk (pa.tk bb)
    refine hQ p (.bin o e f2) zs _ (b06.trans ((Bs.of e7).trans (b8.trans (b9.trans ((Bs.of ea).trans (bb.trans (.of (Ex.new np)))))))) ((pb.ex (Ex.new np)).le (by show n + 1 + 1 + 8 * e.size + 1 + 8 * f2.size ≤ n + 8 * (1 + e.size + f2.size); omega)) ⟨qe, qf, upd_same, te.ex (Ex.new np), tb.ex (Ex.new np)⟩ rfl (o8.two ob r3 he hf o)

theorem sc__law_test : FnScope ["bag", "names", "room", "kind_now", "one"] ["bag", "names", "room"] (defScope s__law_test) := ⟨rfl, rfl, rfl, by decide +kernel, rfl, by decide +kernel, by decide +kernel⟩
theorem step__law_test {k d : Nat} (D : Df K mg "_law_test" s__law_test ["bag", "names", "room"] f fd) (hk : 2 ≤ k) (c1 : Cl P w K mg base 1 "_law_draw" ["bag", "many"] spBD) (ct : Cl P w K mg base k "_law_tree" ["bag", "names", "room"] (spBT true (d + 1))) (ce : Cl P w K mg base k "_law_test" ["bag", "names", "room"] (spBT false d)) (cma : mg "max" = none) : FnG P w K mg base CX0 (k + 1) f fd ["bag", "names", "room"] (spBT false (d + 1)) := by
  refine df_ok D sc__law_test (fun vs H Q E h => by obtain ⟨bg, gl, na, n, xs, r, rfl, _⟩ := h; rfl) (fun cdv A outer s H vs Q E hG hr h => ?_)
  obtain ⟨bg, gl, na, n, xs, r, rfl, r1, rd, hn, hx, p0, hQ⟩ := h
  have ndp := sc__law_test.nd
  have hk1 : 1 ≤ k := by omega
  have kk : k ≤ k := Nat.le_refl _
  refine ⟨_, (pss_cons (ps_set (i := 3) ndp rfl (.inl rfl) (pe_cl c1 hG hr rfl (pa_cons (pv 0) (pa_cons pe_int pa_nil)) hk1)) (pss_cons (ps_if (PW.pt (pw_and (pt_cmpR op_eq (pv 3) pe_int (nomark _)) (pw_and1 (pt_cmpR op_ge (pv 2) pe_int (nomark _))))) (pss_one (ps_ret (pe_tup (pa_cons pe_str (pa_cons (pe_cl ce hG hr rfl (pa_cons (pv 0) (pa_cons (pv 1) (pa_cons (pe_op op_sub (pv 2) pe_int) pa_nil))) kk) pa_nil))))) pss_nil) (pss_cons (ps_if (PW.pt (pw_and (pt_cmpR op_lt (pv 3) pe_int (nomark _)) (pw_and1 (pt_cmpR op_ge (pv 2) pe_int (nomark _)))))
        (pss_cons (ps_set (i := 4) ndp rfl (.inl rfl) (pe_cl ce hG hr rfl (pa_cons (pv 0) (pa_cons (pv 1) (pa_cons (pe_op op_fdivW (pe_op op_sub (pv 2) pe_int) pe_int) pa_nil))) kk)) (pss_one (ps_ret (pe_tup (pa_cons (pe_ix ix_tup (pe_tup (pa_cons pe_str (pa_cons pe_str pa_nil))) (pe_op op_sub (pv 3) pe_int) (fun _ _ => rfl)) (pa_cons (pv 4) (pa_cons (pe_cl ce hG hr rfl (pa_cons (pv 0) (pa_cons (pv 1) (pa_cons (pe_op op_fdivW (pe_op op_sub (pv 2) pe_int) pe_int) pa_nil))) kk) pa_nil))))))) pss_nil) (pss_cons (ps_set (i := 4) ndp rfl (.inl rfl) (pe_cl ct hG hr rfl (pa_cons (pv 0) (pa_cons (pv 1) (pa_cons (pe_callB (call_max2 rfl) (by rfl) cma (by decide +kernel) (pa_cons pe_int (pa_cons (pe_op op_fdivW (pe_op op_sub (pv 2) pe_int) pe_int) pa_nil))) pa_nil))) kk)) (pss_one (ps_ret (pe_tup (pa_cons (pe_ix ix_tup (pe_tup (pa_cons pe_str (pa_cons pe_str pa_nil))) (pe_cl c1 hG hr rfl (pa_cons (pv 0) (pa_cons pe_int pa_nil)) hk1) (fun _ _ => rfl)) (pa_cons (pv 4) (pa_cons (pe_cl ct hG hr rfl (pa_cons (pv 0) (pa_cons (pv 1) (pa_cons (pe_callB (call_max2 rfl) (by rfl) cma (by decide +kernel) (pa_cons pe_int (pa_cons (pe_op op_fdivW (pe_op op_sub (pv 2) pe_int) pe_int) pa_nil))) pa_nil))) kk) pa_nil)))))))))), ?_⟩
  have hw1 : wt true = 1 := rfl
  have hw0 : wt false = 3 := rfl
  rw [hw0] at hn
  have i1 : ∀ {G : Hp} {y3 y4 : Option V}, 2 ≤ r → Ev (tOp (rI0 fun i j => V.int (i - j)) (tVar 2) (tC (.int 1))) [some (.ref bg), some (.ref na), some (.int (r : Nat)), y3, y4] G (.int ((r - 1 : Nat) : Int)) := fun h => ev_is (ev_op (ev_var rfl) ev_c rv_I0) (by congr 1; omega)
  have id2 : ∀ {G : Hp} {y3 y4 : Option V}, Ev (tOp (rI CDivW fun i j => V.int (i / j)) (tOp (rI0 fun i j => V.int (i - j)) (tVar 2) (tC (.int 1))) (tC (.int 2))) [some (.ref bg), some (.ref na), some (.int (r : Nat)), y3, y4] G (.int (((r - 1) / 2 : Nat) : Int)) := fun {G y3 y4} => ev_is (ev_op (ev_op (ev_var rfl) ev_c rv_I0) ev_c (rv_I ⟨by omega, by decide⟩)) (by
    congr 1
    have : (r : Int) - 1 = ((r - 1 : Nat) : Int) := by omega
    rw [this]
    rfl)
  have mxv : ∀ {G : Hp} {y3 y4 : Option V}, Ev (tCB rMax2_ (tCons (tC (.int 1)) (tCons (tOp (rI CDivW fun i j => V.int (i / j)) (tOp (rI0 fun i j => V.int (i - j)) (tVar 2) (tC (.int 1))) (tC (.int 2))) tNil))) [some (.ref bg), some (.ref na), some (.int (r : Nat)), y3, y4] G (.int ((max 1 ((r - 1) / 2) : Nat) : Int)) := fun {G y3 y4} => ev_cb (ea_cons ev_c (ea_cons id2 ea_nil)) fun H1 _ Q1 q1 => ⟨_, _, rfl, by
    have hm : (if (((r - 1) / 2 : Nat) : Int) > 1 then (((r - 1) / 2 : Nat) : Int) else 1) = ((max 1 ((r - 1) / 2) : Nat) : Int) := by split <;> omega
    rw [hm]
    exact q1 H1 (Ex.refl H1)⟩
  refine q_raw (bp_at (l := 6) (n := n) (ea_cons (ev_var rfl) (ea_cons ev_c ea_nil)) (by decide) (by decide) (by omega) p0 fun H1 kn b1 p1 kn0 kn1 => ?_)
  try dsimp only [List.set]
  refine q_when (b := decide (V.int kn = V.int 0) && decide ((r : Int) ≥ 4)) (et_and (et_test (ev_op (ev_var rfl) ev_c (rv_eq rfl))) fun _ => et_test (ev_op (ev_var rfl) ev_c rv_I0)) (fun hb H2 e2 => ?_) (fun hb H2 e2 => ?_)
  · rw [Bool.and_eq_true] at hb
    have r4 : 4 ≤ r := by have := of_decide_eq_true hb.2; omega
    refine ret_raw (tup_raw (ea_at ev_c fun H3 e3 => ?_))
    refine (?_ : tCons _ _ _ _ _)
    refine bt_at (r := r - 1) (ea_cons (ev_var rfl) (ea_cons (ev_var rfl) (ea_cons (i1 (by omega)) ea_nil))) (by omega) (by omega) (by rw [hw0]; omega) hx (p1.ex (e2.trans e3)) fun q e ys H5 b5 p5 t5 he o5 => ?_
    refine (?_ : tNil _ _ _)
    refine (⟨by show 2 ≤ sizeLine; decide, fun p np => ?_⟩ : _ ∧ _)
    refine hQ p (.nt e) ys _ (b1.trans ((Bs.of (e2.trans e3)).trans (b5.trans (.of (Ex.new np))))) ((p5.ex (Ex.new np)).le (by show n + 1 + 8 * e.size ≤ n + 8 * (1 + e.size); omega)) ⟨q, upd_same, t5.ex (Ex.new np)⟩ rfl (o5.not r4 he)
  have b02 := b1.trans (.of e2)
  have p2 := p1.ex e2
  refine q_when (b := decide (kn < 3) && decide ((r : Int) ≥ 7)) (et_and (et_test (ev_op (ev_var rfl) ev_c rv_I0)) fun _ => et_test (ev_op (ev_var rfl) ev_c rv_I0)) (fun hc H3 e3 => ?_) (fun hc H3 e3 => ?_)
  · rw [Bool.and_eq_true] at hc
    have r7 : 7 ≤ r := by have := of_decide_eq_true hc.2; omega
    have k3 := of_decide_eq_true hc.1
    have k0 : kn ≠ 0 := fun z => by
      rw [z, decide_eq_true rfl, decide_eq_true (by omega : (r : Int) ≥ 4)] at hb
      exact nomatch hb
    refine q_raw (bt_at (r := (r - 1) / 2) (ea_cons (ev_var rfl) (ea_cons (ev_var rfl) (ea_cons id2 ea_nil))) (by omega) (by omega) (by rw [hw0]; omega) hx (p2.ex e3) fun qc c ys H4 b4 p4 t4 h4 o4 => ?_)
    try dsimp only [List.set]
    have hs4 := o4.sz
    have hl4 := o4.len
    obtain ⟨bb, hbb⟩ : ∃ bb : Bool, atI [V.str "and", V.str "or"] (kn - 1) = some (.str (lgS bb)) := by
      have : kn = 1 ∨ kn = 2 := by omega
      rcases this with h | h
      · exact ⟨true, by rw [h]; rfl⟩
      · exact ⟨false, by rw [h]; rfl⟩
    refine ret_raw (tup_raw (ea_at (x := .str (lgS bb)) (ev_tupIx (K := K) (eu_tup (ea_cons ev_c (ea_cons ev_c ea_nil)) (by decide)) (ev_op (ev_var rfl) ev_c rv_I0) hbb) fun H5 e5 => ea_at (ev_var rfl) fun H6 e6 => ?_))
    have e56 := e5.trans e6
    have p6 := p4.ex e56
    refine (?_ : tCons _ _ _ _ _)
    refine bt_at (r := (r - 1) / 2) (ea_cons (ev_var rfl) (ea_cons (ev_var rfl) (ea_cons id2 ea_nil))) (by omega) (by omega) (by rw [hw0]; omega) (by omega) p6 fun qd d2 zs H7 b7 p7 t7 h7 o7 => ?_
    refine (?_ : tNil _ _ _)
    refine (⟨by show 3 ≤ sizeLine; decide, fun p np => ?_⟩ : _ ∧ _)
    refine hQ p (.lg bb c d2) zs _ (b02.trans ((Bs.of e3).trans (b4.trans ((Bs.of e56).trans (b7.trans (.of (Ex.new np))))))) ((p7.ex (Ex.new np)).le (by show n + 1 + 8 * c.size + 8 * d2.size ≤ n + 8 * (1 + c.size + d2.size); omega)) ⟨qc, qd, upd_same, ((t4.ex e56).tk (p6.tk b7)).ex (Ex.new np), t7.ex (Ex.new np)⟩ rfl (o4.both o7 r7 h4 h7 bb)
  have b03 := b02.trans (.of e3)
  have p3 := p2.ex e3
  have hm1 : max 1 ((r - 1) / 2) = 1 ∨ max 1 ((r - 1) / 2) ≤ (r - 1) / 2 := by omega
  have hm2 : 1 ≤ max 1 ((r - 1) / 2) ∧ max 1 ((r - 1) / 2) ≤ d + 1 := by omega
  have hm3 : n + 1 + 1 + 16 * max 1 ((r - 1) / 2) + 16 * max 1 ((r - 1) / 2) ≤ n + 8 * (2 * r + 3) := by omega
  generalize max 1 ((r - 1) / 2) = a at mxv hm1 hm2 hm3
  refine q_raw (bt_at (r := a) (ea_cons (ev_var rfl) (ea_cons (ev_var rfl) (ea_cons mxv ea_nil))) hm2.1 hm2.2 (by rw [hw1]; omega) hx p3 fun qe e ys H4 b4 p4 t4 h4 o4 => ?_)
  try dsimp only [List.set]
  have hs4 := o4.sE h4
  have hl4 := o4.len
  refine ret_raw (tup_raw (?_ : tCons _ _ _ _ _))
  refine tup_pick (K := K) (m := 2) (xs := [.str "less", .str "most"]) (ea_cons ev_c (ea_cons ev_c ea_nil)) (by decide) rfl (by decide) p4 (by omega) (fun G e => ea_cons (ev_var rfl) (ea_cons ev_c ea_nil)) fun H5 v i b5 p5 hv => ?_
  obtain ⟨bb, rfl⟩ : ∃ bb : Bool, v = .str (cmpS bb) := by
    match i, hv with
    | 0, hv => exact ⟨true, (Option.some.inj hv).symm⟩
    | 1, hv => exact ⟨false, (Option.some.inj hv).symm⟩
    | i + 2, hv => simp at hv
  refine ea_at (ev_var rfl) fun H6 e6 => ?_
  have p6 := p5.ex e6
  refine (?_ : tCons _ _ _ _ _)
  refine bt_at (r := a) (ea_cons (ev_var rfl) (ea_cons (ev_var rfl) (ea_cons mxv ea_nil))) hm2.1 hm2.2 (by rw [hw1]; omega) (by omega) p6 fun qf f2 zs H7 b7 p7 t7 h7 o7 => ?_
  refine (?_ : tNil _ _ _)
  refine (⟨by show 3 ≤ sizeLine; decide, fun p np => ?_⟩ : _ ∧ _)
  refine hQ p (.cmp bb e f2) zs _ (b03.trans (b4.trans (b5.trans ((Bs.of e6).trans (b7.trans (.of (Ex.new np))))))) ((p7.ex (Ex.new np)).le (by show n + 1 + 8 * e.size + 1 + 8 * f2.size ≤ n + 8 * (1 + e.size + f2.size); omega)) ⟨qe, qf, upd_same, (((t4.tk (p4.tk b5)).ex e6).tk (p6.tk b7)).ex (Ex.new np), t7.ex (Ex.new np)⟩ rfl (o4.comp o7 hm1 r1 h4 h7 bb)

theorem trees_ok {f1 f2 : Addr} {fd1 fd2 : FuncData} (D1 : Df K mg "_law_tree" s__law_tree ["bag", "names", "room"] f1 fd1) (D2 : Df K mg "_law_test" s__law_test ["bag", "names", "room"] f2 fd2)
    (c1 : Cl P w K mg base 1 "_law_draw" ["bag", "many"] spBD) (cl : Cl P w K mg base 2 "_law_leaf" ["bag", "names"] spBLeaf) (cs : Cl P w K mg base 1 "_law_sorts" [] (PL (preNil vKINDS))) (cma : mg "max" = none) : ∀ s : Nat, FnG P w K mg base CX0 (2 + 2 * s) f1 fd1 ["bag", "names", "room"] (spBT true s) ∧ FnG P w K mg base CX0 (2 + 2 * s) f2 fd2 ["bag", "names", "room"] (spBT false s)
  | 0 => ⟨FnG.never fun vs H Q E h => no_bt h, FnG.never fun vs H Q E h => no_bt h⟩
  | s + 1 => by
    obtain ⟨i1, i2⟩ := trees_ok D1 D2 c1 cl cs cma s
    have k2 : 2 ≤ 2 + 2 * s := by omega
    have C1 := Cl.mk D1 i1
    have C2 := Cl.mk D2 i2
    have j1 := step__law_tree D1 k2 c1 cl cs C1 C2
    have E1 := Cl.mk D1 j1
    exact ⟨j1.mono (by omega), (step__law_test (k := 2 + 2 * s + 1) D2 (by omega) c1 E1 (Cl.mk D2 (i2.mono (by omega))) cma).mono (by omega)⟩

theorem sc__law_holders : FnScope ["bag", "many", "wide", "found", "place", "begin", "name"] ["bag", "many", "wide"] (defScope s__law_holders) := ⟨rfl, rfl, rfl, by decide +kernel, rfl, by decide +kernel, by decide +kernel⟩
theorem ok__law_holders (D : Df K mg "_law_holders" s__law_holders ["bag", "many", "wide"] f fd) (c1 : Cl P w K mg base 1 "_law_draw" ["bag", "many"] spBD) (cs : Cl P w K mg base 1 "_law_sorts" [] (PL (preNil vKINDS))) (cr : mg "range" = none) : FnG P w K mg base CX0 2 f fd ["bag", "many", "wide"] spHold := by
  refine df_ok D sc__law_holders (fun vs H Q E h => by obtain ⟨bg, gl, n, many, wide, rfl, _⟩ := h; rfl) (fun cdv A outer s H vs Q E hG hr h => ?_)
  obtain ⟨bg, gl, n, many, wide, rfl, hm, w0, w1, hn, hB, hQ⟩ := h
  have ndp := sc__law_holders.nd
  refine ⟨_, (pss_cons (ps_set (i := 3) ndp rfl (.inl rfl) (pe_lst pa_nil)) (pss_cons (ps_for PassesOwn.never rfl (pi_range1 (by rfl) cr (pa_cons (pv 1) pa_nil)) (pg_name (i := 4) ndp rfl (.inl rfl))
        (pss_cons (ps_set (i := 5) ndp rfl (.inl rfl) (pe_op op_sub (pe_cl c1 hG hr rfl (pa_cons (pv 0) (pa_cons (pe_op op_add (pe_op op_mul pe_int (pv 2)) pe_int) pa_nil))) (pv 2))) (pss_cons (ps_set (i := 6) ndp rfl (.inl rfl) (pe_ix ix_tup (pe_tup (pa_cons pe_str (pa_cons pe_str (pa_cons pe_str (pa_cons pe_str (pa_cons pe_str (pa_cons pe_str (pa_cons pe_str (pa_cons pe_str pa_nil))))))))) (pv 4) (fun _ _ => rfl))) (pss_one (ps_expr (pe_bm PySem.F.plainAttrs_list PySem.F.slot_list_append PySem.F.type_list_append mt_append (pv 3) (pa_cons (pe_tup (pa_cons (pv 6) (pa_cons (pe_ix ix_list (pe_cl0 cs hG hr rfl) (pe_cl c1 hG hr rfl (pa_cons (pv 0) (pa_cons pe_int pa_nil))) (fun _ _ => rfl)) (pa_cons (pv 5) (pa_cons (pe_op op_add (pv 5) (pe_cl c1 hG hr rfl (pa_cons (pv 0) (pa_cons pe_int pa_nil)))) pa_nil))))) pa_nil))))))) (pss_one (ps_ret (pv 3))))), ?_⟩
  refine q_raw (lst_raw (?_ : tNil _ _ _))
  refine (⟨by show 0 ≤ sizeLine; decide, fun l nl => ?_⟩ : _ ∧ _)
  have e2 : Ex H (upd H l (.lst [])) := Ex.new nl
  have hl2 : (upd H l (.lst [])) l = some (.lst []) := upd_same
  generalize upd H l (.lst []) = H2 at e2 hl2 ⊢
  try dsimp only [List.set]
  have nlb := hB.ne nl
  refine q_forR1 (n := (many : Nat)) (ea_cons (ev_var rfl) ea_nil) ⟨by omega, by omega⟩ (fun i σ G => Bg bg gl H G ∧ BagA G bg gl (n + 3 * i) ∧ (∃ rows ps, G l = some (.lst (List.map V.ref ps)) ∧ VarsAt G l rows ∧ BRows rows i wide) ∧ ∃ y4 y5 y6, σ = [some (.ref bg), some (.int (many : Nat)), some (.int wide), some (.ref l), y4, y5, y6])
    (fun H1 e1 => ⟨.of (e2.trans e1), (hB.ex (e2.trans e1)).le (by omega), ⟨[], [], e1 _ _ hl2, ⟨[], e1 _ _ hl2, rfl, fun j w h => nomatch h⟩, rfl, fun w h => nomatch h⟩, none, none, none, rfl⟩) ?_ ?_
  · intro i σ G hi hp
    obtain ⟨bu, hA, ⟨rows, ps, hps, hVs, hBR⟩, y4, y5, y6, rfl⟩ := hp
    have hi8 : i < 8 := by omega
    have hlen := hBR.len (by omega)
    try dsimp only [List.set]
    refine q_raw (op_raw (?_ : tCall _ _ _ _ _ _ _))
    refine bd_at (l := 2 * wide + 1) (n := n + 3 * i) (ea_cons (ev_var rfl) (ea_cons (ev_op (ev_op ev_c (ev_var rfl) (rv_I (.inl ⟨by decide, by omega⟩))) ev_c rv_I0) ea_nil)) (by omega) (by omega) (by omega) hA fun H3 v b3 A3 v0 v1 => ?_
    refine (ev_var rfl : Ev (tVar 2) _ _ (.int wide)) H3 (Ex.refl H3) _ fun H4 e4 => ⟨v, wide, rfl, rfl, ?_⟩
    try dsimp only [List.set]
    have hnm : nm8[i]? = some nm8[i] := List.getElem?_eq_getElem hi8
    refine q_asg (v := .str nm8[i]) (ev_tupIx (K := K) (eu_tup (vs := nm8.map V.str) (ea_cons ev_c (ea_cons ev_c (ea_cons ev_c (ea_cons ev_c (ea_cons ev_c (ea_cons ev_c (ea_cons ev_c (ea_cons ev_c ea_nil)))))))) (by decide)) (ev_var rfl) (atI_nat (by rw [List.getElem?_map, hnm]; rfl))) fun H5 e5 => ?_
    try dsimp only [List.set]
    have A5 := A3.ex (e4.trans e5)
    have hps3 := b3 _ _ nlb.1 nlb.2 hps
    have hVs3 := hVs.bg hA b3 nlb.1 nlb.2
    refine (?_ : tBM _ _ _ _ _ _ _ _)
    refine app_raw (i := 3) rfl ((e4.trans e5) _ _ hps3) (?_ : tCons _ _ _ _ _)
    refine tup_raw (ea_at (ev_var rfl) fun H6 e6 => ?_)
    refine (?_ : tCons _ _ _ _ _)
    refine sort_pickB (K := K) (A5.ex e6) (by omega) (fun G e => ea_cons (ev_var rfl) (ea_cons ev_c ea_nil)) fun H7 kd b7 A7 => ?_
    refine ea_at (ev_var rfl) fun H8 e8 => ?_
    refine (?_ : tCons _ _ _ _ _)
    refine op_raw ((ev_var rfl : Ev (tVar 5) _ _ (.int (v - wide))) H8 (Ex.refl H8) _ fun H9 e9 => ?_)
    refine (?_ : tCall _ _ _ _ _ _ _)
    refine bd_at (l := 4) (n := n + 3 * i + 1 + 1) (ea_cons (ev_var rfl) (ea_cons ev_c ea_nil)) (by decide) (by decide) (by omega) (A7.ex (e8.trans e9)) fun Ha x ba Aa x0 x1 => ⟨v - wide, x, rfl, rfl, ?_⟩
    refine (?_ : tNil _ _ _)
    refine (⟨by show 4 ≤ sizeLine; decide, fun p np => ?_⟩ : _ ∧ _)
    have ep : Ex Ha (upd Ha p (.tup [.str nm8[i], kd.v, .int (v - wide), .int (v - wide + x)])) := Ex.new np
    have hp : (upd Ha p (.tup [.str nm8[i], kd.v, .int (v - wide), .int (v - wide + x)])) p = some (.tup [.str nm8[i], kd.v, .int (v - wide), .int (v - wide + x)]) := upd_same
    generalize upd Ha p (.tup [.str nm8[i], kd.v, .int (v - wide), .int (v - wide + x)]) = Hb at ep hp ⊢
    have c1 := (Bg.of (bg := bg) (gl := gl) ((e4.trans e5).trans e6)).trans (b7.trans ((Bg.of (e8.trans e9)).trans (ba.trans (.of ep))))
    have A3x := A3
    have hpsb := c1 _ _ nlb.1 nlb.2 hps3
    have hVb := hVs3.bg A3 c1 nlb.1 nlb.2
    have cH := bu.trans (b3.trans c1)
    have hle : (ps.map V.ref).length ≤ 8 := by
      obtain ⟨qs, q1, q2, _⟩ := hVs
      rw [q1] at hps
      have := congrArg (fun o => match o with | some (HO.lst xs) => xs.length | _ => 0) hps
      simp only [List.length_map] at this ⊢
      omega
    refine ⟨l, _, _, rfl, rfl, hpsb, sz_lt (by omega), fun q o n1 n2 h => ?_, ?_, ⟨rows ++ [⟨nm8[i], kd, v - wide, v - wide + x⟩], ps ++ [p], by rw [upd_same, List.map_append]; rfl, VarsAt.add (w := ⟨nm8[i], kd, v - wide, v - wide + x⟩) hVb hpsb hp, ?_, fun w hw => ?_⟩, _, _, _, rfl⟩
    · rw [upd_ne (fun z => by rw [z, nl] at h; exact nomatch h)]
      exact cH q o n1 n2 h
    · obtain ⟨gs, left, t, bl, a, b, c⟩ := (Aa.ex ep).le (k := n + 3 * (i + 1)) (by omega)
      exact ⟨gs, left, t, bl, by rw [upd_ne (Ne.symm nlb.1)]; exact a, by rw [upd_ne (Ne.symm nlb.2)]; exact b, c⟩
    · rw [List.map_append, hBR.nm, List.take_add_one, hnm]
      rfl
    · rcases List.mem_append.mp hw with hw | hw
      · exact hBR.low w hw
      · rw [List.mem_singleton.mp hw]
        show -wide ≤ v - wide ∧ v - wide ≤ wide ∧ v - wide ≤ v - wide + x ∧ v - wide + x ≤ v - wide + 3
        omega
  · intro σ G hp
    obtain ⟨bu, hA, ⟨rows, ps, hps, hVs, hBR⟩, y4, y5, y6, rfl⟩ := hp
    have hm2 : ((many : Nat) : Int).toNat = many := by omega
    rw [hm2] at hA hBR
    exact s_ret (ev_var rfl) fun G2 f2 => hQ l rows G2 nl (bu.trans (.of f2)) ((hA.ex f2).le (by omega)) (hVs.ex f2) hBR

theorem sc__law_parts : FnScope ["node", "part"] ["node"] (defScope s__law_parts) := ⟨rfl, rfl, rfl, by decide +kernel, rfl, by decide +kernel, by decide +kernel⟩
theorem ok__law_parts (D : Df K mg "_law_parts" s__law_parts ["node"] f fd) (cis : mg "isinstance" = none) (ctu : mg "tuple" = none) : FnG P w K mg base CX0 1 f fd ["node"] spParts := by
  refine df_ok D sc__law_parts (fun vs H Q E h => by obtain ⟨p, nd, rfl, _⟩ := h; rfl) (fun cdv A outer s H vs Q E hG hr h => ?_)
  obtain ⟨p, nd, rfl, hT, hQ⟩ := h
  have ndp := sc__law_parts.nd
  refine ⟨_, (pss_one (ps_ret (pe_lc (own := [("part", 1)]) (g := gName 1) (tt := tTest (tCB (rIsi K) (tCons (tVar 1) (tCons (tC (.ty "tuple")) tNil)))) rfl ndp (pi_tup (pe_slice sl_tup (pv 0) (po_some pe_int) po_none)) (blkOk_by (N := ["node", "part"]) (sc := defScope s__law_parts) (by decide +kernel)) (fun _ _ _ _ _ => pg_name (i := 1) ndp rfl (Or.inl rfl)) (fun _ _ _ _ _ => pts_one (pt_val (pe_callB call_isi (by rfl) cis (by decide +kernel) (pa_cons (pv 1) (pa_cons (pe_bltn (v := .ty "tuple") (by rfl) ctu (by decide +kernel) rfl) pa_nil))))) (fun _ _ _ _ _ => pv 1)))), ?_⟩
  obtain ⟨rest, hp, hR⟩ := hT.rest
  obtain ⟨hl, hty, qs, hf, hPa⟩ := rest_refs hR
  have at_ : ∀ {i : Nat} {x : V}, rest[i]? = some x → rest.getD i .non = x := fun h => by rw [List.getD_eq_getElem?_getD, h]; rfl
  refine s_retL (el_lcUf (K := K) (xs := rest) (fun i => isRef (rest.getD i .non)) (fun i => rest.getD i .non) (eu_tail (ev_var rfl) (st_of hp)) (by omega) (fun y => rfl) (fun i x H1 e1 hx => ?_) (fun i x H1 e1 hx _ => ?_)) fun l H2 n2 e2 h2 => hQ l qs H2 n2 e2 ?_ (hPa.tk (TupK.of e2))
  · rw [at_ hx]
    refine et_test (et_isTup ?_ (ev_var rfl))
    rcases hty x (List.mem_of_getElem? hx) with ⟨q, ys, rfl, h⟩ | h | h
    · exact .inl ⟨q, ys, rfl, e1 _ _ h⟩
    · exact .inr (.inl h)
    · exact .inr (.inr h)
  · exact ev_is (ev_var rfl) (at_ hx).symm
  · rw [h2, given_filter, hf]

theorem sc__law_literals : FnScope ["node", "found", "part"] ["node"] (defScope s__law_literals) := ⟨rfl, rfl, rfl, by decide +kernel, rfl, by decide +kernel, by decide +kernel⟩
theorem step__law_literals {k d : Nat} (D : Df K mg "_law_literals" s__law_literals ["node"] f fd) (hk : 1 ≤ k) (cp : Cl P w K mg base 1 "_law_parts" ["node"] spParts) (cs : Cl P w K mg base k "_law_literals" ["node"] (spLits d)) : FnG P w K mg base CX0 (k + 1) f fd ["node"] (spLits (d + 1)) := by
  refine df_ok D sc__law_literals (fun vs H Q E h => by obtain ⟨p, nd, rfl, _⟩ := h; rfl) (fun cdv A outer s H vs Q E hG hr h => ?_)
  obtain ⟨p, nd, rfl, hT, hsz, h1000, hQ⟩ := h
  have ndp := sc__law_literals.nd
  refine ⟨_, (pss_cons (ps_if (pt_cmpR op_eq (pe_ix ix_tup (pv 0) pe_int (fun _ _ => rfl)) pe_str (nomark _)) (pss_one (ps_ret (pe_lst (pa_cons (pv 0) pa_nil)))) pss_nil) (pss_cons (ps_set (i := 1) ndp rfl (.inl rfl) (pe_lst pa_nil)) (pss_cons (ps_for PassesOwn.never rfl (pi_list (pe_cl cp hG hr rfl (pa_cons (pv 0) pa_nil) hk)) (pg_name (i := 2) ndp rfl (.inl rfl))
        (pss_one (ps_expr (pe_bm PySem.F.plainAttrs_list PySem.F.slot_list_extend PySem.F.type_list_extend mt_extend (pv 1) (pa_cons (pe_cl cs hG hr rfl (pa_cons (pv 2) pa_nil) (Nat.le_refl _)) pa_nil))))) (pss_one (ps_ret (pv 1)))))), ?_⟩
  obtain ⟨rest, hd⟩ := hT.head
  refine q_when (b := decide (V.str nd.word = V.str "lit")) (et_test (ev_op (ev_op (ev_var rfl) ev_c (rv_ixT (st_of hd) (atI_nat (j := 0) rfl))) ev_c (rv_eq rfl))) (fun hb H1 e1 => ?_) (fun hb H1 e1 => ?_)
  · obtain ⟨n, sf, rfl⟩ := word_lit (V.str.inj (of_decide_eq_true hb))
    exact s_retL (el_lst (ea_cons (ev_var rfl) ea_nil) (by show 1 ≤ _; decide)) fun l H2 n2 e2 h2 => hQ l [p] H2 (fresh_back e1 n2) (e1.trans e2) h2 ⟨hT.ex (e1.trans e2), trivial⟩
  have hnl : nd.word ≠ "lit" := fun z => of_decide_eq_false hb (by rw [z])
  refine q_raw (lst_raw (?_ : tNil _ _ _))
  refine (⟨by show 0 ≤ sizeLine; decide, fun l nl => ?_⟩ : _ ∧ _)
  have e2 : Ex H1 (upd H1 l (.lst [])) := Ex.new nl
  have hl2 : (upd H1 l (.lst [])) l = some (.lst []) := upd_same
  generalize upd H1 l (.lst []) = H2 at e2 hl2 ⊢
  have e12 := e1.trans e2
  have nlH : H l = none := fresh_back e1 nl
  try dsimp only [List.set]
  refine (?_ : tFor _ _ _ _ _ _)
  refine (?_ : tCall _ _ _ _ _ _ _)
  refine (ev_var (v := .ref p) rfl) H2 (Ex.refl H2) _ fun H3 e3 => ⟨p, nd, rfl, hT.ex (e12.trans e3), fun lq qs H4 n4 e4 h4 hP => ?_⟩
  have e24 := e3.trans e4
  have e04 := e12.trans e24
  have hl4 := e24 _ _ hl2
  have hPl := hP.len
  have nql : lq ≠ l := fun z => by rw [z, e3 _ _ hl2] at n4; exact nomatch n4
  have exH : ∀ {G : Hp}, Bu l H4 G → Ex H G := fun bu b o q => bu b o (fun z => by rw [z, nlH] at q; exact nomatch q) (e04 _ _ q)
  have hlp := lits_parts hnl
  have hll := lits_le nd
  refine ⟨lq, rfl, ⟨_, sq_of h4⟩, for_list (xs := qs.map V.ref) (fun i σ G => Bu l H4 G ∧ (∃ rs, G l = some (.lst (rs.map V.ref)) ∧ PartsAt G rs ((nd.parts.take i).flatMap Nd.lits)) ∧ ∃ y2, σ = [some (.ref p), some (.ref l), y2]) ⟨Bu.refl l H4, ⟨[], hl4, trivial⟩, none, rfl⟩ (fun i σ G _ h => sq_of (h.1 _ _ nql h4)) ?_ ?_⟩
  · intro i x σ G hx hp
    obtain ⟨bu, ⟨rs, hrs, hPr⟩, y2, rfl⟩ := hp
    rw [List.getElem?_map] at hx
    obtain ⟨q, hq, rfl⟩ := Option.map_eq_some_iff.mp hx
    obtain ⟨en, hen, hTe⟩ := hP.at.2 i q hq
    have hse : en.size < nd.size := by
      have h1 := size_sum nd
      have h2 := sum_take nd.parts i en hen
      have h3 := sum_le nd.parts (i + 1)
      omega
    have htk : nd.parts.take (i + 1) = nd.parts.take i ++ [en] := by rw [List.take_add_one, hen]; rfl
    have tkG : TupK H4 G := TupK.ofBu bu hl4
    refine (?_ : tBM _ _ _ _ _ _ _ _)
    refine pop_raw (i := 1) rfl hrs (?_ : tCons _ _ _ _ _)
    refine (?_ : tCall _ _ _ _ _ _ _)
    refine ea_at (ev_var rfl) fun G5 e5 => ?_
    refine ⟨q, en, rfl, (hTe.tk tkG).ex e5, by omega, by omega, fun lz zs G6 n6 e6 h6 hPz => ?_⟩
    have hrs6 := e6 _ _ (e5 _ _ hrs)
    have nz : lz ≠ l := fun z => by rw [z, e5 _ _ hrs] at n6; exact nomatch n6
    have hzl : ((rs.map V.ref) ++ (zs.map V.ref)).length ≤ 2000 := by
      have h1 := hPr.len
      have h2 := hPz.len
      have h3 := lits_le en
      have h4 : ((nd.parts.take i).flatMap Nd.lits).length ≤ nd.lits.length := by
        have := List.length_flatMap (f := Nd.lits) (l := nd.parts)
        rw [hlp]
        conv => rhs; rw [← List.take_append_drop i nd.parts]
        rw [List.flatMap_append, List.length_append]
        omega
      rw [List.length_append, List.length_map, List.length_map]
      omega
    refine ⟨l, lz, _, _, rfl, rfl, hrs6, h6, by rw [List.length_append] at hzl; exact Nat.le_trans hzl (by decide), fun b o nb z => ?_, ⟨rs ++ zs, by rw [upd_same, List.map_append], ?_⟩, _, rfl⟩
    · rw [upd_ne nb]
      exact e6 _ _ (e5 _ _ (bu b o nb z))
    · have hu : TupK G6 (upd G6 l (.lst ((rs.map V.ref) ++ (zs.map V.ref)))) := TupK.upd hrs6 fun _ z => nomatch z
      rw [htk, List.flatMap_append]
      simp only [List.flatMap_cons, List.flatMap_nil, List.append_nil]
      exact ((hPr.tk (TupK.of (e5.trans e6))).tk hu).app (hPz.tk hu)
  · intro σ G hp
    obtain ⟨bu, ⟨rs, hrs, hPr⟩, y2, rfl⟩ := hp
    rw [List.length_map, hPl, List.take_length, ← hlp] at hPr
    exact s_ret (ev_var rfl) fun G2 e2 => hQ l rs G2 nlH ((exH bu).trans e2) (e2 _ _ hrs) (hPr.tk (TupK.of e2))

theorem sc__law_count : FnScope ["node", "part"] ["node"] (defScope s__law_count) := ⟨rfl, rfl, rfl, by decide +kernel, rfl, by decide +kernel, by decide +kernel⟩
theorem step__law_count {k d : Nat} (D : Df K mg "_law_count" s__law_count ["node"] f fd) (hk : 1 ≤ k) (cp : Cl P w K mg base 1 "_law_parts" ["node"] spParts) (cs : Cl P w K mg base k "_law_count" ["node"] (PV (preCnt d))) (csu : mg "sum" = none) : FnG P w K mg base CX0 (k + 1) f fd ["node"] (PV (preCnt (d + 1))) := by
  refine df_ok D sc__law_count (pre_len1 fun vs H v h => by obtain ⟨p, nd, rfl, _⟩ := h; rfl) (fun cdv A outer s H vs Q E hG hr h => ?_)
  obtain ⟨v, ⟨p, nd, rfl, hT, hsz, rfl⟩, hQ⟩ := h
  have ndp := sc__law_count.nd
  refine ⟨_, (pss_one (ps_ret (pe_op op_add pe_int (pe_callB (cr_sum rfl) (by rfl) csu (by decide +kernel) (pa_cons (pe_lc (own := [("part", 1)]) (g := gName 1) (tt := tYes) rfl ndp (pi_list (pe_cl cp hG hr rfl (pa_cons (pv 0) pa_nil) hk)) (blkOk_by (N := ["node", "part"]) (sc := defScope s__law_count) (by decide +kernel)) (fun _ _ _ _ _ => pg_name (i := 1) ndp rfl (Or.inl rfl)) (fun _ _ _ _ _ => pts_nil) (fun _ _ _ _ _ => pe_cl cs hG hr rfl (pa_cons (pv 1) pa_nil) (Nat.le_refl _))) pa_nil))))), ?_⟩
  refine ret_raw (op_raw ((ev_c (v := .int 1)) H (Ex.refl H) _ fun H1 e1 => ?_))
  refine (?_ : tCB _ _ _ _ _)
  refine (?_ : tCons _ _ _ _ _)
  have hpl : nd.parts.length ≤ 3 := by cases nd <;> simp [Nd.parts]
  refine lc_of (K := K) (fun a F => Ex H1 F ∧ ∃ qs, F a = some (.lst (qs.map V.ref)) ∧ PartsAt F qs nd.parts) (fun R hR => ?_) (fun y => rfl) fun lq G hG => ?_
  · refine (?_ : tCall _ _ _ _ _ _ _)
    refine (ev_var (v := .ref p) rfl) H1 (Ex.refl H1) _ fun H2 e2 => ⟨p, nd, rfl, hT.ex (e1.trans e2), fun l qs H3 n3 e3 h3 hP => hR l H3 ⟨e2.trans e3, qs, h3, hP⟩⟩
  · obtain ⟨e3, qs, h3, hP⟩ := hG
    have hPl := hP.len
    refine ⟨qs.map V.ref, fun i => .int ((nd.parts.map Nd.size).getD i 0 : Nat), sq_of h3, by rw [List.length_map, hPl]; omega, fun i x G5 f5 hx => ?_, fun D G6 n6 e6 h6 => ?_⟩
    · rw [List.getElem?_map] at hx
      obtain ⟨q, hq, rfl⟩ := Option.map_eq_some_iff.mp hx
      obtain ⟨en, hen, hTe⟩ := hP.at.2 i q hq
      have hse : en.size < nd.size := by
        have h1 := size_sum nd
        have h2 := sum_take nd.parts i en hen
        have h3 := sum_le nd.parts (i + 1)
        omega
      have hv : (nd.parts.map Nd.size).getD i 0 = en.size := by rw [List.getD_eq_getElem?_getD, List.getElem?_map, hen]; rfl
      show Ev _ _ _ (.int ((nd.parts.map Nd.size).getD i 0 : Nat))
      rw [hv]
      exact ev_call (ea_cons (ev_var rfl) ea_nil) (spCnt (hTe.ex f5) (by omega))
    · have hz : (qs.map V.ref).length = (nd.parts.map Nd.size).length := by rw [List.length_map, List.length_map, hPl]
      rw [hz, given_all (nd.parts.map Nd.size) (fun s => V.int (s : Nat)) 0] at h6
      refine (?_ : tNil _ _ _)
      refine ⟨D, (nd.parts.map Nd.size).map fun s => ((s : Nat) : Int), rfl, by rw [List.map_map]; exact sq_of h6, ?_⟩
      refine ⟨1, _, rfl, rfl, ?_⟩
      have hsum : ∀ xs : List Nat, (xs.map fun s => ((s : Nat) : Int)).sum = ((xs.sum : Nat) : Int) := fun xs => by
        induction xs with
        | nil => rfl
        | cons x xs ih => rw [List.map_cons, List.sum_cons, List.sum_cons, ih]; omega
      have he : (1 : Int) + ((nd.parts.map Nd.size).map fun s => ((s : Nat) : Int)).sum = ((nd.size : Nat) : Int) := by
        rw [hsum]
        have := size_parts nd
        omega
      show Q (.int (1 + ((nd.parts.map Nd.size).map fun s => ((s : Nat) : Int)).sum)) G6
      rw [he]
      exact hQ G6 ((e1.trans e3).trans e6)

theorem sc__law_drawn : FnScope ["bag", "holders", "room", "turn", "found", "name", "sort", "begin", "end"] ["bag", "holders", "room"] (defScope s__law_drawn) := ⟨rfl, rfl, rfl, by decide +kernel, rfl, by decide +kernel, by decide +kernel⟩
theorem ok__law_drawn {k : Nat} (D : Df K mg "_law_drawn" s__law_drawn ["bag", "holders", "room"] f fd) (hk : 34 ≤ k) (ct : Cl P w K mg base 34 "_law_tree" ["bag", "names", "room"] (spBT true 16)) (cl : Cl P w K mg base k "_law_literals" ["node"] (spLits 50)) (cc : Cl P w K mg base k "_law_count" ["node"] (PV (preCnt 50))) (cr : mg "range" = none) (cle : mg "len" = none) : FnG P w K mg base CX0 (k + 1) f fd ["bag", "holders", "room"] spDrawn := by
  refine df_ok D sc__law_drawn (fun vs H Q E h => by obtain ⟨bg, gl, hl, n, r, rows, rfl, _⟩ := h; rfl) (fun cdv A outer s H vs Q E hG hr h => ?_)
  obtain ⟨bg, gl, hl, n, r, rows, rfl, r1, r16, hn, hB, ngl, hV, hz, hnd, hQ⟩ := h
  have ndp := sc__law_drawn.nd
  refine ⟨_, (pss_cons (ps_for PassesOwn.never rfl (pi_range1 (by rfl) cr (pa_cons pe_int pa_nil)) (pg_name (i := 3) ndp rfl (.inl rfl))
        (pss_cons (ps_set (i := 4) ndp rfl (.inl rfl) (pe_cl ct hG hr rfl (pa_cons (pv 0) (pa_cons (pe_lc (own := [("name", 5), ("sort", 6), ("begin", 7), ("end", 8)]) (g := gTup K 4 (gCons (gName 5) (gCons (gName 6) (gCons (gName 7) (gCons (gName 8) gNil))))) (tt := tYes) rfl ndp (pi_list (pv 1)) (blkOk_by (N := ["bag", "holders", "room", "turn", "found", "name", "sort", "begin", "end"]) (sc := defScope s__law_drawn) (by decide +kernel)) (fun _ _ _ _ _ => pg_tup rfl (pgs_cons (pg_name (i := 5) ndp rfl (Or.inl rfl)) (pgs_cons (pg_name (i := 6) ndp rfl (Or.inl rfl)) (pgs_cons (pg_name (i := 7) ndp rfl (Or.inl rfl)) (pgs_cons (pg_name (i := 8) ndp rfl (Or.inl rfl)) pgs_nil))))) (fun _ _ _ _ _ => pts_nil) (fun _ _ _ _ _ => pv 5)) (pa_cons (pv 2) pa_nil))) hk)) (pss_one (ps_if (PW.pt (pw_and (pt_cmpR op_le (pe_callB call_len_seq (by rfl) cle (by decide +kernel) (pa_cons (pe_cl cl hG hr rfl (pa_cons (pv 4) pa_nil) (Nat.le_refl _)) pa_nil)) pe_int (nomark _)) (pw_and1 (pt_cmpR op_le (pe_cl cc hG hr rfl (pa_cons (pv 4) pa_nil) (Nat.le_refl _)) pe_int (nomark _))))) (pss_one (ps_ret (pv 4))) pss_nil)))) (pss_one (ps_ret (pe_tup (pa_cons pe_str (pa_cons pe_int (pa_cons pe_str pa_nil))))))), ?_⟩
  obtain ⟨hps, hl0⟩ : ∃ xs, H hl = some (.lst xs) := by obtain ⟨ps, a, _⟩ := hV; exact ⟨_, a⟩
  have nhb : hl ≠ bg := fun z => by
    obtain ⟨gs, left, t, bl, a, _⟩ := hB
    rw [z, a] at hl0
    exact nomatch hl0
  refine q_forR1 (n := 6) (ea_cons ev_c ea_nil) ⟨by decide, by decide⟩ (fun i σ G => Bg bg gl H G ∧ BagA G bg gl (n + 300 * i) ∧ ∃ y3 y4, σ = [some (.ref bg), some (.ref hl), some (.int (r : Nat)), y3, y4, none, none, none, none]) (fun H1 e1 => ⟨.of e1, (hB.ex e1).le (by omega), none, none, rfl⟩) ?_ ?_
  · intro i σ G hi hp
    obtain ⟨bu, hA, y3, y4, rfl⟩ := hp
    try dsimp only [List.set]
    have hVG := hV.bg hB bu nhb ngl
    refine q_raw (?_ : tCall _ _ _ _ _ _ _)
    refine ea_at (ev_var rfl) fun G1 e1 => ?_
    refine ea_atL (el_names (K := K) (ev_var rfl) (hVG.ex e1) (by omega) (fun _ _ _ _ => rfl) (fun _ _ _ _ => rfl)) fun na G2 n2 e2 h2 => ?_
    refine ea_at (ev_var rfl) fun G3 e3 => ?_
    have e13 := (e1.trans e2).trans e3
    have nna := hA.ne (fresh_back e1 n2)
    have hw1 : wt true = 1 := rfl
    have hxl : (rows.map Row.name).length = rows.length := List.length_map ..
    refine ⟨bg, gl, na, n + 300 * i, rows.map Row.name, r, rfl, r1, r16, by rw [hw1]; omega, by omega, ⟨hA.ex e13, e3 _ _ h2, nna.2⟩, fun p nd ys G4 b4 p4 t4 hE o4 => ?_⟩
    try dsimp only [List.set]
    have bu4 : Bg bg gl G G4 := fun q o m1 m2 h => b4 q o m1 m2 (fun z => by rw [z] at h; rw [fresh_back e1 n2] at h; exact nomatch h) (e13 _ _ h)
    have hs := o4.sE hE
    have A4 := p4.b
    refine if_raw (cond_go (fun c F => Ex G4 F ∧ (c = true → nd.lits.length ≤ 6 ∧ nd.size ≤ 24)) (fun KK hK => ?_) (fun c F hP => ?_))
    · refine and_raw (test_raw (op_raw (?_ : tCB _ _ _ _ _)))
      refine (?_ : tCons _ _ _ _ _)
      refine (?_ : tCall _ _ _ _ _ _ _)
      refine ea_at (ev_var rfl) fun G5 e5 => ⟨p, nd, rfl, t4.ex e5, by omega, by omega, fun ll qs G6 n6 e6 h6 hPl => ?_⟩
      have hlen := hPl.len
      refine ⟨ll, _, rfl, .inl (sq_of h6), ?_⟩
      refine (ev_c (v := .int 6)) G6 (Ex.refl G6) _ fun G7 e7 => ⟨_, _, rfl, rfl, _, rfl, ?_⟩
      have e57 := (e5.trans e6).trans e7
      by_cases h6' : nd.lits.length ≤ 6
      · rw [decide_eq_true (by rw [List.length_map, hlen]; omega), if_pos rfl]
        exact (et_test (ev_op (ev_call (ea_cons (ev_var rfl) ea_nil) (spCnt (d := 50) (t4.ex e57) (by omega))) ev_c rv_I0)) G7 (Ex.refl G7) _ fun G8 e8 => hK _ _ ⟨e57.trans e8, fun z => ⟨h6', by have := of_decide_eq_true z; omega⟩⟩
      · rw [decide_eq_false (by rw [List.length_map, hlen]; omega), if_neg (by decide)]
        exact hK _ _ ⟨e57, fun z => nomatch z⟩
    obtain ⟨eF, hc⟩ := hP
    cases c with
    | true =>
      rw [if_pos rfl]
      obtain ⟨c1, c2⟩ := hc rfl
      refine s_ret (ev_var rfl) fun G5 e5 => hQ p nd G5 ((bu.trans bu4).trans (.of (eF.trans e5))) ((A4.ex (eF.trans e5)).le (by omega)) (t4.ex (eF.trans e5)) ⟨o4.wf, hE, c2, c1, fun x hx => o4.pm.mem_iff.mp (List.mem_append_left _ hx), (disj_of ((o4.pm.nodup_iff).mpr hnd)).1, o4.nb, o4.ls⟩
    | false =>
      rw [if_neg (by decide)]
      exact ⟨(bu.trans bu4).trans (.of eF), (A4.ex eF).le (by omega), _, _, rfl⟩
  · intro σ G hp
    obtain ⟨bu, hA, y3, y4, rfl⟩ := hp
    have h6 : (6 : Int).toNat = 6 := rfl
    rw [h6] at hA
    refine ret_raw ((eu_tup (ea_cons ev_c (ea_cons ev_c (ea_cons ev_c ea_nil))) (by show 3 ≤ _; decide)) G (Ex.refl G) _ fun p G2 n2 e2 h2 => ?_)
    exact hQ p (.lit 1 "") G2 (bu.trans (.of e2)) ((hA.ex e2).le (by omega)) h2 ⟨⟨by decide, by decide, by decide +kernel⟩, rfl, by decide, by decide, (fun x h => nomatch h), List.nodup_nil, nF_leaf r1, by show (1 : Int) < 2 ^ 20; decide⟩

theorem sc__law_power : FnScope ["span", "found", "turn"] ["span"] (defScope s__law_power) := ⟨rfl, rfl, rfl, by decide +kernel, rfl, by decide +kernel, by decide +kernel⟩
theorem ok__law_power (D : Df K mg "_law_power" s__law_power ["span"] f fd) (cr : mg "range" = none) : FnG P w K mg base CX0 1 f fd ["span"] (PV prePow) := by
  refine df_ok D sc__law_power (pre_len1 fun vs H v h => by obtain ⟨k, rfl, _⟩ := h; rfl) (fun cdv A outer s H vs Q E hG hr h => ?_)
  obtain ⟨v, ⟨k, rfl, k0, k1, rfl⟩, hQ⟩ := h
  have ndp := sc__law_power.nd
  refine ⟨_, (pss_cons (ps_set (i := 1) ndp rfl (.inl rfl) pe_int) (pss_cons (ps_for PassesOwn.never rfl (pi_range1 (by rfl) cr (pa_cons (pv 0) pa_nil)) (pg_name (i := 2) ndp rfl (.inl rfl)) (pss_one (ps_set (i := 1) ndp rfl (.inl rfl) (pe_op op_mulW (pv 1) pe_int)))) (pss_one (ps_ret (pv 1))))), ?_⟩
  refine q_asg (v := .int 1) ev_c fun H1 e1 => ?_
  try dsimp only [List.set]
  refine q_forR1 (n := k) (ea_cons (ev_var rfl) ea_nil) ⟨k0, by omega⟩ (fun i σ G => Ex H G ∧ ∃ y, σ = [some (.int k), some (.int (2 ^ i)), y]) (fun G e => ⟨e1.trans e, none, rfl⟩) ?_ ?_
  · intro i σ G hi hp2
    obtain ⟨eg, y5, rfl⟩ := hp2
    try dsimp only [List.set]
    refine s_asg (ev_op (ev_var rfl) ev_c (rv_I (wide_mul (a := 1001) (b := 2) ?_ (by decide) (by decide) (by decide) (by decide)))) fun G2 e2 => ⟨eg.trans e2, some (.int (i : Nat)), ?_⟩
    · rw [pow2_abs]
      exact Nat.pow_lt_pow_right (by decide) (by omega)
    · rw [← pow2_step]
      rfl
  · intro σ G hp2
    obtain ⟨eg, y5, rfl⟩ := hp2
    exact s_ret (ev_var rfl) fun G2 e2 => hQ G2 (eg.trans e2)

theorem sc__law_true : FnScope ["node", "values", "word", "some", "power", "part"] ["node", "values"] (defScope s__law_true) := ⟨rfl, rfl, rfl, by decide +kernel, rfl, by decide +kernel, by decide +kernel⟩
theorem step__law_true {d k : Nat} (D : Df K mg "_law_true" s__law_true ["node", "values"] f fd) (hk : 1 ≤ k) (cp : Cl P w K mg base 1 "_law_parts" ["node"] spParts) (cw : Cl P w K mg base 1 "_law_power" ["span"] (PV prePow)) (cin : mg "int" = none) (cs : Cl P w K mg base k "_law_true" ["node", "values"] (PV (preLE K d))) : FnG P w K mg base CX0 (k + 1) f fd ["node", "values"] (PV (preLE K (d + 1))) := by
  refine df_ok D sc__law_true (pre_len1 fun vs H v h => by obtain ⟨q, gv, kvs, g, nd, rfl, _⟩ := h; rfl) (fun cdv A outer s H vs Q E hG hr h => ?_)
  obtain ⟨v, ⟨q, gv, kvs, g, nd, rfl, hT, hw, hd, hs, hkv, hv, hg, rfl⟩, hQ⟩ := h
  have ndp := sc__law_true.nd
  have hu := hu_of hr
  have kk : k ≤ k := Nat.le_refl _
  refine ⟨_, (pss_cons (ps_set (i := 2) ndp rfl (.inl rfl) (pe_ix ix_tup (pv 0) pe_int (fun _ _ => rfl))) (pss_cons (ps_if (pt_cmpR op_eq (pv 2) pe_str (nomark _)) (pss_one (ps_ret (pe_dget hu (pv 1) (pe_ix ix_tup (pv 0) pe_int (fun _ _ => rfl)) (fun _ _ => rfl)))) pss_nil) (pss_cons (ps_if (pt_cmpR op_eq (pv 2) pe_str (nomark _)) (pss_one (ps_ret (pe_ix ix_tup (pv 0) pe_int (fun _ _ => rfl)))) pss_nil) (pss_cons (ps_if (pt_cmpR op_eq (pv 2) pe_str (nomark _)) (pss_one (ps_ret (pe_cl cs hG hr rfl (pa_cons (pe_ix ix_tup (pe_tup (pa_cons (pe_ix ix_tup (pv 0) pe_int (fun _ _ => rfl)) (pa_cons (pe_ix ix_tup (pv 0) pe_int (fun _ _ => rfl)) pa_nil))) (pe_callTy call_int1 (by rfl) cin (by decide +kernel) (pa_cons (pe_cl cs hG hr rfl (pa_cons (pe_ix ix_tup (pv 0) pe_int (fun _ _ => rfl)) (pa_cons (pv 1) pa_nil)) kk) pa_nil)) (fun _ _ => rfl)) (pa_cons (pv 1) pa_nil)) kk))) pss_nil) (pss_cons (ps_setLc (i := 3) (own := [("part", 5)]) (g := gName 5) (tt := tYes) rfl ndp rfl rfl (by rfl) (pi_list (pe_cl cp hG hr rfl (pa_cons (pv 0) pa_nil) hk)) (blkOk_by (N := ["node", "values", "word", "some", "power", "part"]) (sc := defScope s__law_true) (by decide +kernel)) (fun _ _ _ _ _ => pg_name (i := 5) ndp rfl (Or.inl rfl)) (fun _ _ _ _ _ => pts_nil) (fun _ _ _ _ _ => pe_cl cs hG hr rfl (pa_cons (pv 5) (pa_cons (pv 1) pa_nil)) kk)) (pss_cons (ps_if (pt_cmpR op_in_seq (pv 2) (pe_tup (pa_cons pe_str (pa_cons pe_str pa_nil))) (by rfl)) (pss_cons (ps_set (i := 4) ndp rfl (.inl rfl) (pe_cl cw hG hr rfl (pa_cons (pe_ix ix_tup (pv 0) pe_int (fun _ _ => rfl)) pa_nil) hk)) (pss_one (ps_ret (pe_ix ix_tup (pe_tup (pa_cons (pe_op op_mulW (pe_ix ix_list (pv 3) pe_int (fun _ _ => rfl)) (pv 4)) (pa_cons (pe_op op_fdivW (pe_ix ix_list (pv 3) pe_int (fun _ _ => rfl)) (pv 4)) pa_nil))) (pe_callTy call_int1 (by rfl) cin (by decide +kernel) (pa_cons (pe_cmpR op_eq (pv 2) pe_str (nomark _)) pa_nil)) (fun _ _ => rfl))))) pss_nil) (pss_cons (ps_if (pt_cmpR op_in_seq (pv 2) (pe_tup (pa_cons pe_str (pa_cons pe_str (pa_cons pe_str pa_nil)))) (by rfl)) (pss_one (ps_ret (pe_dget hu (pe_disp (pps_cons pe_str (pe_ix ix_list (pv 3) pe_int (fun _ _ => rfl)) (pps_cons pe_str (pe_op op_subM pe_int (pe_ix ix_list (pv 3) pe_int (fun _ _ => rfl))) (pps_cons pe_str (pe_notT (pe_ix ix_list (pv 3) pe_int (fun _ _ => rfl))) pps_nil))) rfl rfl (by simp) (by simp)) (pv 2) (fun _ _ => rfl)))) pss_nil) (pss_cons (ps_if (pt_cmpR op_in_seq (pv 2) (pe_tup (pa_cons pe_str (pa_cons pe_str pa_nil))) (by rfl)) (pss_one (ps_ret (pe_ix ix_tup (pe_tup (pa_cons (pe_and (pe_ix ix_list (pv 3) pe_int (fun _ _ => rfl)) (pe_one (pe_ix ix_list (pv 3) pe_int (fun _ _ => rfl)))) (pa_cons (pe_or (pe_ix ix_list (pv 3) pe_int (fun _ _ => rfl)) (pe_one (pe_ix ix_list (pv 3) pe_int (fun _ _ => rfl)))) pa_nil))) (pe_callTy call_int1 (by rfl) cin (by decide +kernel) (pa_cons (pe_cmpR op_eq (pv 2) pe_str (nomark _)) pa_nil)) (fun _ _ => rfl)))) pss_nil) (pss_cons (ps_if (pt_cmpR op_in_seq (pv 2) (pe_tup (pa_cons pe_str (pa_cons pe_str pa_nil))) (by rfl)) (pss_one (ps_ret (pe_ix ix_tup (pe_tup (pa_cons (pe_cmpR op_lt (pe_ix ix_list (pv 3) pe_int (fun _ _ => rfl)) (pe_ix ix_list (pv 3) pe_int (fun _ _ => rfl)) (nomark _)) (pa_cons (pe_cmpR op_le (pe_ix ix_list (pv 3) pe_int (fun _ _ => rfl)) (pe_ix ix_list (pv 3) pe_int (fun _ _ => rfl)) (nomark _)) pa_nil))) (pe_callTy call_int1 (by rfl) cin (by decide +kernel) (pa_cons (pe_cmpR op_eq (pv 2) pe_str (nomark _)) pa_nil)) (fun _ _ => rfl)))) pss_nil) (pss_one (ps_ret (pe_dget hu (pe_disp (pps_cons pe_str (pe_op op_add (pe_ix ix_list (pv 3) pe_int (fun _ _ => rfl)) (pe_ix ix_list (pv 3) pe_int (fun _ _ => rfl))) (pps_cons pe_str (pe_op op_sub (pe_ix ix_list (pv 3) pe_int (fun _ _ => rfl)) (pe_ix ix_list (pv 3) pe_int (fun _ _ => rfl))) (pps_cons pe_str (pe_op op_mulW (pe_ix ix_list (pv 3) pe_int (fun _ _ => rfl)) (pe_ix ix_list (pv 3) pe_int (fun _ _ => rfl))) pps_nil))) rfl rfl (by simp) (by simp)) (pv 2) (fun _ _ => rfl))))))))))))), ?_⟩
  obtain ⟨rest, hd0⟩ := hT.head
  refine q_asg (v := .str nd.word) (ev_op (ev_var rfl) ev_c (rv_ixT (st_of hd0) (atI_nat (j := 0) rfl))) fun H1 e1 => ?_
  try dsimp only [List.set]
  refine q_when (b := decide (V.str nd.word = V.str "var")) (et_test (ev_op (ev_var rfl) ev_c (rv_eq rfl))) (fun hb H2 e2 => ?_) (fun hb H2 e2 => ?_)
  · obtain ⟨x, rfl⟩ := word_var (V.str.inj (of_decide_eq_true hb))
    have e12 := e1.trans e2
    have hp : H2 q = some (.tup [.str "var", .str x]) := e12 _ _ hT
    exact s_ret (ev_dgetV (ev_var rfl) (ev_op (ev_var rfl) ev_c (rv_ixT (st_of hp) (atI_nat (j := 1) rfl))) (e12 _ _ hkv) (hv x (List.mem_cons_self ..))) fun H3 e3 => hQ H3 (e12.trans e3)
  have n0 : nd.word ≠ "var" := fun z => of_decide_eq_false hb (by rw [z])
  refine q_when (b := decide (V.str nd.word = V.str "lit")) (et_test (ev_op (ev_var rfl) ev_c (rv_eq rfl))) (fun hb H3 e3 => ?_) (fun hb H3 e3 => ?_)
  · obtain ⟨n, sf, rfl⟩ := word_lit (V.str.inj (of_decide_eq_true hb))
    have e13 := (e1.trans e2).trans e3
    have hp : H3 q = some (.tup [.str "lit", .int n, .str sf]) := e13 _ _ hT
    exact s_ret (ev_op (ev_var rfl) ev_c (rv_ixT (st_of hp) (atI_nat (j := 1) rfl))) fun H4 e4 => hQ H4 (e13.trans e4)
  have n1 : nd.word ≠ "lit" := fun z => of_decide_eq_false hb (by rw [z])
  have e13 := (e1.trans e2).trans e3
  refine q_when (b := decide (V.str nd.word = V.str "if")) (et_test (ev_op (ev_var rfl) ev_c (rv_eq rfl))) (fun hb2 H4 e4 => ?_) (fun hb2 H4 e4 => ?_)
  · obtain ⟨c, e, f2, rfl⟩ := word_ite (V.str.inj (of_decide_eq_true hb2))
    obtain ⟨o, q2, r2, hp, htc, hte, htf⟩ := id hT
    obtain ⟨w1, w2, w3, w4, w5, w6⟩ := id hw
    have e14 := e13.trans e4
    have hz : 1 + c.size + e.size + f2.size ≤ d + 1 := hd
    have hz2 : 1 + c.size + e.size + f2.size ≤ 30 := hs
    have it_ : ∀ {j : Nat} {v : V}, ([.str "if", .ref o, .ref q2, .ref r2] : List V)[j]? = some v → Ev (tOp (rIxT K) (tVar 0) (tC (.int (j : Nat)))) [some (.ref q), some (.ref gv), some (.str (Nd.ite c e f2).word), none, none, none] H4 v := fun h => ev_op (ev_var rfl) ev_c (rv_ixT (st_of (e14 _ _ hp)) (atI_nat h))
    have rc : Ev (tCall (PV (preLE K d)) [] E0 (tCons (tOp (rIxT K) (tVar 0) (tC (.int 1))) (tCons (tVar 1) tNil))) [some (.ref q), some (.ref gv), some (.str (Nd.ite c e f2).word), none, none, none] H4 (.bl (c.tru g)) := by
      have this : Ev (tCall (PV (preLE K d)) [] E0 (tCons (tOp (rIxT K) (tVar 0) (tC (.int 1))) (tCons (tVar 1) tNil))) [some (.ref q), some (.ref gv), some (.str (Nd.ite c e f2).word), none, none, none] H4 (exV g c) := ev_call (ea_cons (it_ (j := 1) rfl) (ea_cons (ev_var rfl) ea_nil)) (spLE (d := d) (htc.ex e14) w4 (by omega) (by omega) (e14 _ _ hkv) (fun x hx => hv x (parts_vars (nd := .ite c e f2) (List.mem_cons_self ..) x hx)) hg)
      rw [exV_C w1] at this
      exact this
    have hq3 := hQ
    have goalT : ∀ (x : Nd) (qx : Addr), TreeAt H qx x → x.wf → x.size ≤ d ∧ x.size ≤ 30 → (∀ y ∈ x.vars, y ∈ (Nd.ite c e f2).vars) → (if c.tru g = true then V.ref q2 else V.ref r2) = .ref qx → exV g x = exV g (.ite c e f2) → tRet (tCall (PV (preLE K d)) [] E0 (tCons (tOp (rIxT K) (tTup (tCons (tOp (rIxT K) (tVar 0) (tC (.int 3))) (tCons (tOp (rIxT K) (tVar 0) (tC (.int 2))) tNil))) (tCB rInt1_ (tCons (tCall (PV (preLE K d)) [] E0 (tCons (tOp (rIxT K) (tVar 0) (tC (.int 1))) (tCons (tVar 1) tNil))) tNil))) (tCons (tVar 1) tNil))) { nx := fun _ _ => False, rt := Q } [some (.ref q), some (.ref gv), some (.str (Nd.ite c e f2).word), none, none, none] H4 := fun x qx tx wx sx vx px ex => by
      refine s_ret (ev_call (ea_cons (ev_pickB (K := K) (it_ (j := 3) rfl) (it_ (j := 2) rfl) rc px) (ea_cons (ev_var rfl) ea_nil)) (spLE (d := d) (tx.ex e14) wx sx.1 sx.2 (e14 _ _ hkv) (fun y hy => hv y (vx y hy)) hg)) fun H8 e8 => ?_
      have := hQ H8 (e14.trans e8)
      rw [ex]
      exact this
    cases hct : c.tru g with
    | true => exact goalT e q2 hte w5 (by omega) (fun y hy => List.mem_append_right _ (List.mem_append_left _ hy)) (by rw [hct]; rfl) (by rw [exV_E w2, exV_E (nd := .ite c e f2) rfl]; simp only [Nd.num, hct, if_true])
    | false => exact goalT f2 r2 htf w6 (by omega) (fun y hy => List.mem_append_right _ (List.mem_append_right _ hy)) (by rw [hct]; rfl) (by rw [exV_E w3, exV_E (nd := .ite c e f2) rfl]; simp only [Nd.num, hct, Bool.false_eq_true, if_false])
  have n3 : nd.word ≠ "if" := fun z => of_decide_eq_false hb2 (by rw [z])
  have e14 := e13.trans e4
  have hpl : nd.parts.length ≤ 3 := by cases nd <;> simp [Nd.parts]
  refine q_raw (lc_of (K := K) (fun a F => Ex H4 F ∧ ∃ qs, F a = some (.lst (qs.map V.ref)) ∧ PartsAt F qs nd.parts) (fun R hR => ?_) (fun y => rfl) fun lq G hG => ?_)
  · refine (?_ : tCall _ _ _ _ _ _ _)
    refine (ev_var (v := .ref q) rfl) H4 (Ex.refl H4) _ fun F e => ⟨q, nd, rfl, hT.ex (e14.trans e), fun l qs F3 n3 e3 h3 hP => hR l F3 ⟨e.trans e3, qs, h3, hP⟩⟩
  obtain ⟨eG, qs, h3, hP⟩ := hG
  have hPl := hP.len
  have e1G := e14.trans eG
  refine ⟨qs.map V.ref, fun i => exV g (nd.parts.getD i (.lit 0 "")), sq_of h3, by rw [List.length_map, hPl]; omega, fun i x G5 f5 hx => ?_, fun sl G6 n6 e6 h6 => ?_⟩
  · rw [List.getElem?_map] at hx
    obtain ⟨qq, hq, rfl⟩ := Option.map_eq_some_iff.mp hx
    obtain ⟨en, hen, hTe⟩ := hP.at.2 i qq hq
    have hm := List.mem_of_getElem? hen
    have hz := (parts_wf hw en hm).2
    have hvv : nd.parts.getD i (.lit 0 "") = en := by rw [List.getD_eq_getElem?_getD, hen]; rfl
    show Ev _ _ _ (exV g (nd.parts.getD i (.lit 0 "")))
    rw [hvv]
    exact ev_call (ea_cons (ev_var rfl) (ea_cons (ev_var rfl) ea_nil)) (spLE (hTe.ex f5) (parts_wf hw en hm).1 (by omega) (by omega) ((e1G.trans f5) _ _ hkv) (fun x hx => hv x (parts_vars hm x hx)) hg)
  rw [List.length_map, hPl, given_all nd.parts (exV g) (.lit 0 "")] at h6
  have e16 := e1G.trans e6
  try dsimp only [List.set]
  have itm : ∀ {G : Hp} {σ : L2.St} {j : Nat} {v : V}, Ex G6 G → σ[3]? = some (some (.ref sl)) → (nd.parts.map (exV g))[j]? = some v → Ev (tOp (rIxL K) (tVar 3) (tC (.int (j : Nat)))) σ G v := fun e h hj => ev_op (ev_var h) ev_c (rv_ixL (sq_of (e _ _ h6)) (atI_nat hj))
  have in2 : ∀ {G : Hp} {c1 c2 : Str} {b : Bool}, inV (.str nd.word) [.str c1, .str c2] = b → EvT (tTest (tOp (rIn K false) (tVar 2) (tTup (tCons (tC (.str c1)) (tCons (tC (.str c2)) tNil))))) [some (.ref q), some (.ref gv), some (.str nd.word), some (.ref sl), none, none] G b := fun {G c1 c2 b} h => et_is (et_B (ev_inU (xs := [.str c1, .str c2]) (ev_var rfl) (eu_tup (ea_cons ev_c (ea_cons ev_c ea_nil)) (by show 2 ≤ _; decide)) rfl rfl)) h
  have in3 : ∀ {G : Hp} {c1 c2 c3 : Str} {b : Bool}, inV (.str nd.word) [.str c1, .str c2, .str c3] = b → EvT (tTest (tOp (rIn K false) (tVar 2) (tTup (tCons (tC (.str c1)) (tCons (tC (.str c2)) (tCons (tC (.str c3)) tNil)))))) [some (.ref q), some (.ref gv), some (.str nd.word), some (.ref sl), none, none] G b := fun {G c1 c2 c3 b} h => et_is (et_B (ev_inU (xs := [.str c1, .str c2, .str c3]) (ev_var rfl) (eu_tup (ea_cons ev_c (ea_cons ev_c (ea_cons ev_c ea_nil))) (by show 3 ≤ _; decide)) rfl rfl)) h
  have eqw : ∀ {G : Hp} {σ : L2.St} {c : Str} {b : Bool}, σ[2]? = some (some (.str nd.word)) → decide (V.str nd.word = V.str c) = b → Ev (tOp rEq (tVar 2) (tC (.str c))) σ G (.bl b) := fun h e => ev_is (ev_op (ev_var h) ev_c (rv_eq rfl)) (by rw [e])
  have fin : ∀ {G : Hp} {te : TE} {σ : L2.St}, Ex G6 G → Ev te σ G (exV g nd) → tRet te { nx := fun x H' => Q V.non H', rt := Q } σ G := fun e h => s_ret h fun G2 e2 => hQ G2 (e16.trans (e.trans e2))
  match nd, hT, hw, hs, hd, n0, n1, n3, @itm, @in2, @in3, @eqw, @fin with
  | .var _, _, _, _, _, n0, _, _, _, _, _, _, _ => exact absurd rfl n0
  | .lit _ _, _, _, _, _, _, n1, _, _, _, _, _, _ => exact absurd rfl n1
  | .ite _ _ _, _, _, _, _, _, _, n3, _, _, _, _, _ => exact absurd rfl n3
  | .sh b e k2, hT, hw, hs, hd, _, _, _, itm, in2, in3, eqw, fin =>
    obtain ⟨q2, hp, ht⟩ := id hT
    obtain ⟨hE, hwe, k0, k1⟩ := id hw
    refine q_when (b := true) (in2 (by cases b <;> rfl)) (fun _ G7 f7 => ?_) (fun z => nomatch z)
    refine q_asg (v := .int (2 ^ k2.toNat)) (ev_call (ea_cons (ev_op (ev_var rfl) ev_c (rv_ixT (st_of ((e16.trans f7) _ _ hp)) (atI_nat (j := 2) rfl))) ea_nil) (spPow k0 k1)) fun G8 f8 => ?_
    try dsimp only [List.set]
    have f78 := f7.trans f8
    have nb := num_bound hg hwe
    have pb : ((2 : Int) ^ k2.toNat).natAbs < 2 ^ 1001 := by
      rw [pow2_abs]
      exact Nat.pow_lt_pow_right (by decide) (by omega)
    have hs2 : 1 + e.size ≤ 30 := hs
    have hs3 := size_sum e
    have i0 : ∀ {σ : L2.St}, σ[3]? = some (some (.ref sl)) → Ev (tOp (rIxL K) (tVar 3) (tC (.int 0))) σ G8 (.int (e.num g)) := fun h => itm (j := 0) f78 h (by show some (exV g e) = _; rw [exV_E hE])
    refine fin f78 (ev_pickB (K := K) (b := !b) (ev_op (i0 rfl) (ev_var rfl) (rv_I (wide_mul nb pb (by omega) (by decide) (by omega)))) (ev_op (i0 rfl) (ev_var rfl) (rv_I (wide_div (Int.pow_pos (by decide)) pb (by decide) (by decide)))) (eqw rfl (by cases b <;> rfl)) ?_)
    rw [exV_E (nd := .sh b e k2) rfl]
    cases b <;> rfl
  | .cast kd e, hT, hw, hs, hd, _, _, _, itm, in2, in3, eqw, fin =>
    have i0 : ∀ {σ : L2.St} {G : Hp}, Ex G6 G → σ[3]? = some (some (.ref sl)) → Ev (tOp (rIxL K) (tVar 3) (tC (.int 0))) σ G (.int (e.num g)) := fun e2 h => itm (j := 0) e2 h (by show some (exV g e) = _; rw [exV_E hw.1])
    refine q_when (b := false) (in2 (by rfl)) (fun z => nomatch z) (fun _ G7 f7 => ?_)
    refine q_when (b := true) (in3 (by rfl)) (fun _ G8 f8 => ?_) (fun z => nomatch z)
    have f78 := f7.trans f8
    refine fin f78 (ev_dget3 (i0 f78 rfl) (ev_op ev_c (i0 f78 rfl) rv_subI) (ev_notTI (i0 f78 rfl)) (ev_var rfl) rfl ?_)
    rw [exV_E (nd := .cast kd e) rfl]
    rfl
  | .neg e, hT, hw, hs, hd, _, _, _, itm, in2, in3, eqw, fin =>
    have i0 : ∀ {σ : L2.St} {G : Hp}, Ex G6 G → σ[3]? = some (some (.ref sl)) → Ev (tOp (rIxL K) (tVar 3) (tC (.int 0))) σ G (.int (e.num g)) := fun e2 h => itm (j := 0) e2 h (by show some (exV g e) = _; rw [exV_E hw.1])
    refine q_when (b := false) (in2 (by rfl)) (fun z => nomatch z) (fun _ G7 f7 => ?_)
    refine q_when (b := true) (in3 (by rfl)) (fun _ G8 f8 => ?_) (fun z => nomatch z)
    have f78 := f7.trans f8
    refine fin f78 (ev_dget3 (i0 f78 rfl) (ev_op ev_c (i0 f78 rfl) rv_subI) (ev_notTI (i0 f78 rfl)) (ev_var rfl) rfl ?_)
    rw [exV_E (nd := .neg e) rfl]
    show some (V.int (0 - e.num g)) = some (V.int (- e.num g))
    rw [Int.zero_sub]
  | .nt c, hT, hw, hs, hd, _, _, _, itm, in2, in3, eqw, fin =>
    have i0 : ∀ {σ : L2.St} {G : Hp}, Ex G6 G → σ[3]? = some (some (.ref sl)) → Ev (tOp (rIxL K) (tVar 3) (tC (.int 0))) σ G (.bl (c.tru g)) := fun e2 h => itm (j := 0) e2 h (by show some (exV g c) = _; rw [exV_C hw.1])
    refine q_when (b := false) (in2 (by rfl)) (fun z => nomatch z) (fun _ G7 f7 => ?_)
    refine q_when (b := true) (in3 (by rfl)) (fun _ G8 f8 => ?_) (fun z => nomatch z)
    have f78 := f7.trans f8
    refine fin f78 (ev_dget3 (i0 f78 rfl) (ev_op ev_c (i0 f78 rfl) rv_subB) (ev_notTB (i0 f78 rfl)) (ev_var rfl) rfl ?_)
    rw [exV_C (nd := .nt c) rfl]
    rfl
  | .lg b c d2, hT, hw, hs, hd, _, _, _, itm, in2, in3, eqw, fin =>
    have i0 : ∀ {σ : L2.St} {G : Hp}, Ex G6 G → σ[3]? = some (some (.ref sl)) → Ev (tOp (rIxL K) (tVar 3) (tC (.int 0))) σ G (.bl (c.tru g)) := fun e2 h => itm (j := 0) e2 h (by show some (exV g c) = _; rw [exV_C hw.1])
    have i1 : ∀ {σ : L2.St} {G : Hp}, Ex G6 G → σ[3]? = some (some (.ref sl)) → Ev (tOp (rIxL K) (tVar 3) (tC (.int 1))) σ G (.bl (d2.tru g)) := fun e2 h => itm (j := 1) e2 h (by show some (exV g d2) = _; rw [exV_C hw.2.1])
    refine q_when (b := false) (in2 (by cases b <;> rfl)) (fun z => nomatch z) (fun _ G7 f7 => ?_)
    refine q_when (b := false) (in3 (by cases b <;> rfl)) (fun z => nomatch z) (fun _ G8 f8 => ?_)
    refine q_when (b := true) (in2 (by cases b <;> rfl)) (fun _ G9 f9 => ?_) (fun z => nomatch z)
    have f79 := (f7.trans f8).trans f9
    refine fin f79 (ev_pickB (K := K) (b := !b) (ev_andV (i0 f79 rfl) fun _ => i1 f79 rfl) (ev_orV (i0 f79 rfl) fun _ => i1 f79 rfl) (eqw rfl (by cases b <;> rfl)) ?_)
    rw [exV_C (nd := .lg b c d2) rfl]
    cases b <;> rfl
  | .cmp b e f2, hT, hw, hs, hd, _, _, _, itm, in2, in3, eqw, fin =>
    have i0 : ∀ {σ : L2.St} {G : Hp}, Ex G6 G → σ[3]? = some (some (.ref sl)) → Ev (tOp (rIxL K) (tVar 3) (tC (.int 0))) σ G (.int (e.num g)) := fun e2 h => itm (j := 0) e2 h (by show some (exV g e) = _; rw [exV_E hw.1])
    have i1 : ∀ {σ : L2.St} {G : Hp}, Ex G6 G → σ[3]? = some (some (.ref sl)) → Ev (tOp (rIxL K) (tVar 3) (tC (.int 1))) σ G (.int (f2.num g)) := fun e2 h => itm (j := 1) e2 h (by show some (exV g f2) = _; rw [exV_E hw.2.1])
    refine q_when (b := false) (in2 (by cases b <;> rfl)) (fun z => nomatch z) (fun _ G7 f7 => ?_)
    refine q_when (b := false) (in3 (by cases b <;> rfl)) (fun z => nomatch z) (fun _ G8 f8 => ?_)
    refine q_when (b := false) (in2 (by cases b <;> rfl)) (fun z => nomatch z) (fun _ G9 f9 => ?_)
    refine q_when (b := true) (in2 (by cases b <;> rfl)) (fun _ Ga fa => ?_) (fun z => nomatch z)
    have f7a := ((f7.trans f8).trans f9).trans fa
    refine fin f7a (ev_pickB (K := K) (b := !b) (ev_op (i0 f7a rfl) (i1 f7a rfl) rv_I0) (ev_op (i0 f7a rfl) (i1 f7a rfl) rv_I0) (eqw rfl (by cases b <;> rfl)) ?_)
    rw [exV_C (nd := .cmp b e f2) rfl]
    cases b <;> rfl
  | .bin o e f2, hT, hw, hs, hd, _, _, _, itm, in2, in3, eqw, fin =>
    have i0 : ∀ {σ : L2.St} {G : Hp}, Ex G6 G → σ[3]? = some (some (.ref sl)) → Ev (tOp (rIxL K) (tVar 3) (tC (.int 0))) σ G (.int (e.num g)) := fun e2 h => itm (j := 0) e2 h (by show some (exV g e) = _; rw [exV_E hw.1])
    have i1 : ∀ {σ : L2.St} {G : Hp}, Ex G6 G → σ[3]? = some (some (.ref sl)) → Ev (tOp (rIxL K) (tVar 3) (tC (.int 1))) σ G (.int (f2.num g)) := fun e2 h => itm (j := 1) e2 h (by show some (exV g f2) = _; rw [exV_E hw.2.1])
    have n1 := num_bound hg hw.2.2.1
    have n2 := num_bound hg hw.2.2.2
    have hs2 : 1 + e.size + f2.size ≤ 30 := hs
    have s1 := size_sum e
    have s2 := size_sum f2
    refine q_when (b := false) (in2 (by cases o <;> rfl)) (fun z => nomatch z) (fun _ G7 f7 => ?_)
    refine q_when (b := false) (in3 (by cases o <;> rfl)) (fun z => nomatch z) (fun _ G8 f8 => ?_)
    refine q_when (b := false) (in2 (by cases o <;> rfl)) (fun z => nomatch z) (fun _ G9 f9 => ?_)
    refine q_when (b := false) (in2 (by cases o <;> rfl)) (fun z => nomatch z) (fun _ Ga fa => ?_)
    have f7a := ((f7.trans f8).trans f9).trans fa
    refine fin f7a (ev_dget3 (ev_op (i0 f7a rfl) (i1 f7a rfl) rv_I0) (ev_op (i0 f7a rfl) (i1 f7a rfl) rv_I0) (ev_op (i0 f7a rfl) (i1 f7a rfl) (rv_I (wide_mul n1 n2 (by omega) (by omega) (by omega)))) (ev_var rfl) rfl ?_)
    rw [exV_E (nd := .bin o e f2) rfl]
    cases o <;> rfl

theorem sc__law_all_values : FnScope ["holders", "found", "name", "sort", "begin", "end", "longer", "values", "amount", "fresh"] ["holders"] (defScope s__law_all_values) := ⟨rfl, rfl, rfl, by decide +kernel, rfl, by decide +kernel, by decide +kernel⟩
theorem ok__law_all_values (D : Df K mg "_law_all_values" s__law_all_values ["holders"] f fd) (cr : mg "range" = none) (cd : mg "dict" = none) : FnG P w K mg base CX0 1 f fd ["holders"] spAllV := by
  refine df_ok D sc__law_all_values (fun vs H Q E h => by obtain ⟨l, rows, rfl, _⟩ := h; rfl) (fun cdv A outer s H vs Q E hG hr h => ?_)
  obtain ⟨l, rows, rfl, hV, h4, hnd, hlow, hQ⟩ := h
  have ndp := sc__law_all_values.nd
  have hu := hu_of hr
  refine ⟨_, (pss_cons (ps_set (i := 1) ndp rfl (.inl rfl) (pe_lst (pa_cons pe_dnewK pa_nil))) (pss_cons (ps_for PassesOwn.never rfl (pi_list (pv 0)) (pg_tup rfl (pgs_cons (pg_name (i := 2) ndp rfl (.inl rfl)) (pgs_cons (pg_name (i := 3) ndp rfl (.inl rfl)) (pgs_cons (pg_name (i := 4) ndp rfl (.inl rfl)) (pgs_cons (pg_name (i := 5) ndp rfl (.inl rfl)) pgs_nil)))))
        (pss_cons (ps_set (i := 6) ndp rfl (.inl rfl) (pe_lst pa_nil)) (pss_cons (ps_for PassesOwn.never rfl (pi_list (pv 1)) (pg_name (i := 7) ndp rfl (.inl rfl))
            (pss_one (ps_for PassesOwn.never rfl (pi_range2 (by rfl) cr (pa_cons (pv 4) (pa_cons (pe_op op_add (pv 5) pe_int) pa_nil))) (pg_name (i := 8) ndp rfl (.inl rfl))
              (pss_cons (ps_set (i := 9) ndp rfl (.inl rfl) (pe_callTy call_dictD (by rfl) cd (by decide +kernel) (pa_cons (pv 7) pa_nil))) (pss_cons (ps_dput hu (pv 9) (pv 2) (pv 8) (by rfl)) (pss_one (ps_expr (pe_bm PySem.F.plainAttrs_list PySem.F.slot_list_append PySem.F.type_list_append mt_append (pv 6) (pa_cons (pv 9) pa_nil))))))))) (pss_one (ps_set (i := 1) ndp rfl (.inl rfl) (pv 6)))))) (pss_one (ps_ret (pv 1))))), ?_⟩
  obtain ⟨ps, hl, hlen, hrow⟩ := id hV
  refine q_raw (lst_raw (?_ : tCons _ _ _ _ _))
  refine fun z0 nz0 => ?_
  refine (?_ : tNil _ _ _)
  refine (⟨by show 1 ≤ sizeLine; decide, fun z1 nz1 => ?_⟩ : _ ∧ _)
  have e1 : Ex H (upd H z0 (.dK [])) := Ex.new nz0
  have h0 : (upd H z0 (.dK [])) z0 = some (.dK []) := upd_same
  generalize upd H z0 (.dK []) = H1 at e1 h0 nz1 ⊢
  have e2 : Ex H1 (upd H1 z1 (.lst [.ref z0])) := Ex.new nz1
  have h1 : (upd H1 z1 (.lst [.ref z0])) z1 = some (.lst [.ref z0]) := upd_same
  have h01 := e2 _ _ h0
  generalize upd H1 z1 (.lst [.ref z0]) = H2 at e2 h1 h01 ⊢
  try dsimp only [List.set]
  have e12 := e1.trans e2
  have hpl : (ps.map V.ref).length = rows.length := by rw [List.length_map, hlen]
  refine (?_ : tFor _ _ _ _ _ _)
  refine ⟨_, rfl, l, rfl, ⟨_, sq_of (e12 _ _ hl)⟩, for_list (xs := ps.map V.ref) (fun i σ G => Ex H G ∧ ∃ a y2 y3 y4 y5 y6 y7 y8 y9, σ = [some (.ref l), some (.ref a), y2, y3, y4, y5, y6, y7, y8, y9] ∧ H a = none ∧ DDAt (fun p => H p = none) G a (allV (rows.take i))) ⟨e12, z1, none, none, none, none, none, none, none, none, rfl, fresh_back e1 nz1, ⟨[z0], h1, rfl, fun j c hj => by
      have hj : ([[]] : List (List Gv))[j]? = some c := hj
      match j, hj with
      | 0, hj => cases (Option.some.inj hj); exact ⟨z0, rfl, h01, nz0⟩
      | j + 1, hj => simp at hj⟩⟩ (fun i σ G _ h => ex_l h.1 (sq_of hl)) ?_ ?_⟩
  · intro i x σ G hx hp
    obtain ⟨e, a, y2, y3, y4, y5, y6, y7, y8, y9, rfl, na, hA⟩ := hp
    rw [List.getElem?_map] at hx
    obtain ⟨q, hq, rfl⟩ := Option.map_eq_some_iff.mp hx
    have hi : i < rows.length := by
      have := (List.getElem?_eq_some_iff.mp hq).1
      rw [hlen] at this
      exact this
    have hri : rows[i]? = some rows[i] := List.getElem?_eq_getElem hi
    obtain ⟨q2, w1, w2⟩ := hrow i rows[i] hri
    rw [hq] at w1
    cases w1
    have hlw := hlow rows[i] (List.getElem_mem _)
    have hAl := allV_len (rows := rows.take i) (fun v hv => (hlow v (List.mem_of_mem_take hv)).2.1) (by rw [List.length_take]; omega)
    have hnew : rows[i].name ∉ (rows.take i).map Row.name := fun hm => by
      rw [List.map_take] at hm
      obtain ⟨j, hj1, hj2⟩ := List.getElem_of_mem hm
      rw [List.length_take] at hj1
      rw [List.getElem_take] at hj2
      have := (List.getElem_inj (i := j) (j := i) (h₀ := by omega) (h₁ := by rw [List.length_map]; exact hi) hnd).mp (by rw [hj2, List.getElem_map])
      omega
    have hstep := allV_take hri
    have hfst : ∀ L ∈ allV (rows.take i), L.map (·.1.name) = (rows.take i).map Row.name := fun L hL => by
      rw [← (mem_allV.mp hL).1, List.map_map]
      rfl
    generalize rows[i] = wr at w2 hlw hnew hstep
    generalize allV (rows.take i) = As at hA hAl hstep hfst
    obtain ⟨aps, ha1, ha2, ha3⟩ := id hA
    refine ⟨q, _, rfl, st_of (e _ _ w2), rfl, _, _, rfl, _, _, rfl, _, _, rfl, _, _, rfl, rfl, ?_⟩
    try dsimp only [List.set]
    refine q_raw (lst_raw (?_ : tNil _ _ _))
    refine (⟨by show 0 ≤ sizeLine; decide, fun dl ndl => ?_⟩ : _ ∧ _)
    have f1 : Ex G (upd G dl (.lst [])) := Ex.new ndl
    have hd1 : (upd G dl (.lst [])) dl = some (.lst []) := upd_same
    generalize upd G dl (.lst []) = G1 at f1 hd1 ⊢
    try dsimp only [List.set]
    have ne1 : ∀ {b : Addr} {o : HO}, G b = some o → b ≠ dl := fun h z => by rw [z, ndl] at h; exact nomatch h
    have exG : ∀ {F : Hp}, Bu dl G1 F → Ex G F := fun bu b o h => bu b o (ne1 h) (f1 _ _ h)
    refine q_forLb (K := K) (xs := aps.map V.ref) (ev_var rfl) (sq_of (f1 _ _ ha1)) (fun c σ F => Bu dl G1 F ∧ DDAt (fun p => H p = none) F dl (addV (As.take c) wr) ∧ ∃ z7 z8 z9, σ = [some (.ref l), some (.ref a), some (.str wr.name), some wr.kind.v, some (.int wr.low), some (.int wr.high), some (.ref dl), z7, z8, z9])
      (fun F e3 => ⟨Bu.of e3, ⟨[], e3 _ _ hd1, rfl, fun j L h => nomatch h⟩, _, _, _, rfl⟩) (fun c σ F _ h => sq_of (exG h.1 _ _ ha1)) ?_ ?_
    · intro c x σ F hx hp
      obtain ⟨bu, hDD, z7, z8, z9, rfl⟩ := hp
      rw [List.getElem?_map] at hx
      obtain ⟨pc, hpc, rfl⟩ := Option.map_eq_some_iff.mp hx
      have hc : c < As.length := by rw [← ha2]; exact (List.getElem?_eq_some_iff.mp hpc).1
      have hAc : As[c]? = some As[c] := List.getElem?_eq_getElem hc
      obtain ⟨p3, r1, r2, r3⟩ := ha3 c As[c] hAc
      rw [hpc] at r1
      cases r1
      have htk : addV (As.take (c + 1)) wr = addV (As.take c) wr ++ (rngI wr).map fun v => As[c] ++ [(wr, v)] := by
        rw [List.take_add_one, hAc]
        unfold addV
        simp only [Option.toList_some, List.flatMap_append, List.flatMap_cons, List.flatMap_nil, List.append_nil]
      have hnm : wr.name ∉ As[c].map (·.1.name) := by rw [hfst _ (List.getElem_mem hc)]; exact hnew
      have hLl : As[c].length ≤ 4 := by
        have := congrArg List.length (hfst _ (List.getElem_mem hc))
        rw [List.length_map, List.length_map, List.length_take] at this
        omega
      have hadd : (addV (As.take c) wr).length ≤ 2000 := by
        have h1 : ∀ Ls : List (List Gv), (addV Ls wr).length ≤ Ls.length * 4 := fun Ls => by
          have hr4 : (rngI wr).length ≤ 4 := by unfold rngI; rw [List.length_map, List.length_range]; omega
          induction Ls with
          | nil => exact Nat.zero_le _
          | cons L Ls ih =>
            show (((rngI wr).map fun v => L ++ [(wr, v)]) ++ addV Ls wr).length ≤ _
            rw [List.length_append, List.length_map, List.length_cons]
            omega
        have := h1 (As.take c)
        rw [List.length_take] at this
        omega
      generalize As[c] = L at r2 htk hnm hLl
      rw [htk]
      generalize addV (As.take c) wr = B at hDD hadd
      have hrl : (rngI wr).length ≤ 4 := by unfold rngI; rw [List.length_map, List.length_range]; omega
      try dsimp only [List.set]
      refine s_forR2g (lo := wr.low) (n := wr.high + 1) (ea_cons (ev_var rfl) (ea_cons (ev_op (ev_var rfl) ev_c rv_I0) ea_nil)) (by omega) (fun t σ F => Bu dl G1 F ∧ DDAt (fun p => H p = none) F dl (B ++ ((rngI wr).take t).map fun v => L ++ [(wr, v)]) ∧ ∃ z8 z9, σ = [some (.ref l), some (.ref a), some (.str wr.name), some wr.kind.v, some (.int wr.low), some (.int wr.high), some (.ref dl), some (.ref pc), z8, z9])
        (fun F2 e3 => ⟨fun b o nb h => e3 _ _ (bu b o nb h), by rw [List.take_zero]; simpa using hDD.ex e3, _, _, rfl⟩) ?_ ?_
      · intro t σ F2 ht hp
        obtain ⟨bu2, hD2, z8, z9, rfl⟩ := hp
        have hpc2 := exG bu2 _ _ r2
        have hrt : (rngI wr)[t]? = some (wr.low + (t : Int)) := by
          unfold rngI
          rw [List.getElem?_map, List.getElem?_range (by omega)]
          rfl
        have htk2 : B ++ ((rngI wr).take (t + 1)).map (fun v => L ++ [(wr, v)]) = (B ++ ((rngI wr).take t).map fun v => L ++ [(wr, v)]) ++ [L ++ [(wr, wr.low + (t : Int))]] := by
          rw [List.take_add_one, hrt]
          simp only [Option.toList_some, List.map_append, List.map_cons, List.map_nil, List.append_assoc]
        have hbl : (B ++ ((rngI wr).take t).map fun v => L ++ [(wr, v)]).length ≤ 2100 := by
          rw [List.length_append, List.length_map, List.length_take]
          omega
        try dsimp only [List.set]
        refine q_raw (?_ : tCB _ _ _ _ _)
        refine (?_ : tCons _ _ _ _ _)
        refine ea_at (ev_var rfl) fun F3 e3 => ?_
        refine (?_ : tNil _ _ _)
        refine ⟨pc, gvL L, rfl, .inl (e3 _ _ hpc2), fun np nnp => ?_⟩
        have e4 : Ex F3 (upd F3 np (.dK (gvL L))) := Ex.new nnp
        have h4' : (upd F3 np (.dK (gvL L))) np = some (.dK (gvL L)) := upd_same
        generalize upd F3 np (.dK (gvL L)) = F4 at e4 h4' ⊢
        try dsimp only [List.set]
        refine (?_ : sDPut _ _ _ _ _ _)
        refine (ev_var (v := .int (wr.low + (t : Int))) rfl) F4 (Ex.refl F4) _ fun F5 e5 => (ev_var (v := .ref np) rfl) F5 (Ex.refl F5) _ fun F6 e6 => (ev_var (v := .str wr.name) rfl) F6 (Ex.refl F6) _ fun F7 e7 => ?_
        have e47 := (e5.trans e6).trans e7
        refine ⟨np, _, rfl, DPut.k (k := .inr wr.name) (e47 _ _ h4') (sz_lt (by unfold gvL; rw [List.length_map]; omega)), ?_⟩
        rw [gv_put hnm]
        have nnpF2 : F2 np = none := fresh_back e3 nnp
        have e8 : Ex F2 (upd F7 np (.dK (gvL (L ++ [(wr, wr.low + (t : Int))])))) := fun b o h => by
          rw [upd_ne (fun z => by rw [z, nnpF2] at h; exact nomatch h)]
          exact e47 _ _ (e4 _ _ (e3 _ _ h))
        have h8 : (upd F7 np (.dK (gvL (L ++ [(wr, wr.low + (t : Int))])))) np = some (.dK (gvL (L ++ [(wr, wr.low + (t : Int))]))) := upd_same
        generalize upd F7 np (.dK (gvL (L ++ [(wr, wr.low + (t : Int))]))) = F8 at e8 h8 ⊢
        obtain ⟨acc, hacc, hal⟩ := hD2.list
        try dsimp only
        refine (?_ : tBM _ _ _ _ _ _ _ _)
        refine app_raw (i := 6) rfl (e8 _ _ hacc) (?_ : tCons _ _ _ _ _)
        refine ea_at (ev_var rfl) fun F9 e9 => ?_
        have e89 := e8.trans e9
        obtain ⟨_, hN⟩ := (hD2.ex e89).add (e9 _ _ h8) (fresh_back e (fresh_back f1 (by
          cases hq : G1 np with
          | none => rfl
          | some o =>
            have nd : np ≠ dl := fun z => by rw [z] at nnpF2; obtain ⟨ac, hac, _⟩ := hD2.list; rw [hac] at nnpF2; exact nomatch nnpF2
            rw [bu2 _ _ nd hq] at nnpF2
            exact nomatch nnpF2))) (e89 _ _ hacc)
        refine ⟨dl, _, _, rfl, rfl, e89 _ _ hacc, sz_lt (by rw [hal]; omega), fun b o nb h => ?_, by rw [htk2]; exact hN, _, _, rfl⟩
        rw [upd_ne nb]
        exact e89 _ _ (bu2 b o nb h)
      · intro σ F2 hp
        obtain ⟨bu2, hD2, z8, z9, rfl⟩ := hp
        have hfull : (rngI wr).take (wr.high + 1 - wr.low).toNat = rngI wr := by
          rw [List.take_of_length_le]
          unfold rngI
          rw [List.length_map, List.length_range]
          omega
        rw [hfull] at hD2
        exact ⟨bu2, hD2, _, _, _, rfl⟩
    · intro σ F hp
      obtain ⟨bu, hDD, z7, z8, z9, rfl⟩ := hp
      rw [List.length_map, ha2, List.take_length, ← hstep] at hDD
      exact s_asg (ev_var rfl) fun F2 e3 => ⟨e.trans ((exG bu).trans e3), dl, _, _, _, _, _, _, _, _, rfl, fresh_back e ndl, hDD.ex e3⟩
  · intro σ G hp
    obtain ⟨e, a, y2, y3, y4, y5, y6, y7, y8, y9, rfl, na, hA⟩ := hp
    rw [hpl, List.take_length] at hA
    exact s_ret (ev_var rfl) fun G2 e2 => hQ a G2 na (e.trans e2) (hA.ex e2)

theorem sc_law : FnScope ["script", "bag", "turn", "holders", "node", "every", "made", "spot", "test", "seen", "choice", "due", "values", "one"] ["script"] (defScope s_law) := ⟨rfl, rfl, rfl, by decide +kernel, rfl, by decide +kernel, by decide +kernel⟩
theorem ok_law {k : Nat} (D : Df K mg "law" s_law ["script"] f fd) (hk : 2 ≤ k) (cb : Cl P w K mg base 1 "_law_bag" ["script"] (spBagA K)) (cd : Cl P w K mg base 1 "_law_draw" ["bag", "many"] spBD) (ch : Cl P w K mg base 2 "_law_holders" ["bag", "many", "wide"] spHold) (cn : Cl P w K mg base k "_law_drawn" ["bag", "holders", "room"] spDrawn) (ca : Cl P w K mg base 1 "_law_all_values" ["holders"] spAllV) (ct : Cl P w K mg base k "_law_true" ["node", "values"] (PV (preLE K 30))) (cli : Cl P w K mg base k "_law_literals" ["node"] (spLits 50))
    (cbo : Cl P w K mg base k "bounds" ["variables", "expression"] (spBounds K)) (co : Cl P w K mg base k "outcomes" ["variables", "condition"] (spOutc K)) (cm : Cl P w K mg base k "mathematical" ["variables", "expression", "values"] (PV (preMath K))) (cra : mg "range" = none) (cmi : mg "min" = none) (cma : mg "max" = none) (cle : mg "len" = none) (cin : mg "int" = none) : FnG P w K mg base CX0 (k + 1) f fd ["script"] (spLaw K) := by
  refine df_ok D sc_law (fun vs H Q E h => by obtain ⟨a, ns, rfl, _⟩ := h; rfl) (fun cdv A outer s H vs Q E hG hr h => ?_)
  obtain ⟨a, ns, rfl, hS, hlen, hQ⟩ := h
  have ndp := sc_law.nd
  have hu := hr.units
  have hk1 : 1 ≤ k := by omega
  have kk : k ≤ k := Nat.le_refl _
  refine ⟨_, (pss_cons (ps_set (i := 1) ndp rfl (.inl rfl) (pe_cl cb hG hr rfl (pa_cons (pv 0) pa_nil) hk1)) (pss_cons (ps_for PassesOwn.never rfl (pi_range1 (by rfl) cra (pa_cons (pe_op op_add pe_int (pe_callB (call_min2 rfl) (by rfl) cmi (by decide +kernel) (pa_cons pe_int (pa_cons (pe_callB call_len_seq (by rfl) cle (by decide +kernel) (pa_cons (pv 0) pa_nil)) pa_nil)))) pa_nil)) (pg_name (i := 2) ndp rfl (.inl rfl))
        (pss_cons (ps_set (i := 3) ndp rfl (.inl rfl) (pe_cl ch hG hr rfl (pa_cons (pv 1) (pa_cons (pe_op op_add pe_int (pe_cl cd hG hr rfl (pa_cons (pv 1) (pa_cons pe_int pa_nil)) hk1)) (pa_cons pe_int pa_nil))) hk))
        (pss_cons (ps_set (i := 4) ndp rfl (.inr rfl) (pe_cl cn hG hr rfl (pa_cons (pv 1) (pa_cons (pv 3) (pa_cons (pe_op op_add pe_int (pe_cl cd hG hr rfl (pa_cons (pv 1) (pa_cons pe_int pa_nil)) hk1)) pa_nil))) kk))
        (pss_cons (ps_set (i := 5) ndp rfl (.inl rfl) (pe_cl ca hG hr rfl (pa_cons (pv 3) pa_nil) hk1))
        (pss_cons (ps_setLc (i := 6) (own := [("values", 12)]) (g := gName 12) (tt := tYes) rfl ndp rfl rfl (by rfl) (pi_list (pv 5)) (blkOk_by (N := ["script", "bag", "turn", "holders", "node", "every", "made", "spot", "test", "seen", "choice", "due", "values", "one"]) (sc := defScope s_law) (by decide +kernel)) (fun _ _ _ _ _ => pg_name (i := 12) ndp rfl (Or.inl rfl)) (fun _ _ _ _ _ => pts_nil) (fun _ _ _ _ _ => pe_cl ct hG hr rfl (pa_cons (pv 4) (pa_cons (pv 12) pa_nil)) kk))
        (pss_cons (ps_if (pt_cmpR (op_neD hu) (pe_cl cbo hG hr rfl (pa_cons (pv 3) (pa_cons (pv 4) pa_nil)) kk) (pe_tup (pa_cons (pe_callB (cr_minN rfl) (by rfl) cmi (by decide +kernel) (pa_cons (pv 6) pa_nil)) (pa_cons (pe_callB (cr_maxN rfl) (by rfl) cma (by decide +kernel) (pa_cons (pv 6) pa_nil)) pa_nil))) (nomark _)) (pss_one (ps_ret pe_bl)) pss_nil)
        (pss_cons (ps_set (i := 7) ndp rfl (.inl rfl) (pe_cl cd hG hr rfl (pa_cons (pv 1) (pa_cons (pe_callB call_len_seq (by rfl) cle (by decide +kernel) (pa_cons (pv 5) pa_nil)) pa_nil)) hk1))
        (pss_cons (ps_if (pt_cmpR op_ne (pe_cl cm hG hr rfl (pa_cons (pv 3) (pa_cons (pv 4) (pa_cons (pe_ix ix_list (pv 5) (pv 7) (fun _ _ => rfl)) pa_nil))) kk) (pe_ix ix_list (pv 6) (pv 7) (fun _ _ => rfl)) (nomark _)) (pss_one (ps_ret pe_bl)) pss_nil)
        (pss_cons (ps_if (pt_cmpR op_gt (pe_callB call_len_seq (by rfl) cle (by decide +kernel) (pa_cons (pe_cl cli hG hr rfl (pa_cons (pv 4) pa_nil) kk) pa_nil)) pe_int (nomark _)) (pss_one ps_continue) pss_nil)
        (pss_cons (ps_set (i := 8) ndp rfl (.inr rfl) (pe_tup (pa_cons pe_str (pa_cons (pv 4) (pa_cons (pe_tup (pa_cons pe_str (pa_cons (pe_callB (call_max2 rfl) (by rfl) cma (by decide +kernel) (pa_cons pe_int (pa_cons (pe_op op_add (pe_callB (cr_minN rfl) (by rfl) cmi (by decide +kernel) (pa_cons (pv 6) pa_nil)) (pe_cl cd hG hr rfl (pa_cons (pv 1) (pa_cons pe_int pa_nil)) hk1)) pa_nil))) (pa_cons pe_str pa_nil)))) pa_nil)))))
        (pss_cut (ps_if (pt_cmpR op_eq (pe_cl cd hG hr rfl (pa_cons (pv 1) (pa_cons pe_int pa_nil)) hk1) pe_int (nomark _)) (pss_one (ps_set (i := 8) ndp rfl (.inr rfl) (pe_tup (pa_cons pe_str (pa_cons (pv 8) pa_nil))))) pss_nil)
        (pss_cons (ps_setLc (i := 9) (own := [("values", 12)]) (g := gName 12) (tt := tYes) rfl ndp rfl rfl (by rfl) (pi_list (pv 5)) (blkOk_by (N := ["script", "bag", "turn", "holders", "node", "every", "made", "spot", "test", "seen", "choice", "due", "values", "one"]) (sc := defScope s_law) (by decide +kernel)) (fun _ _ _ _ _ => pg_name (i := 12) ndp rfl (Or.inl rfl)) (fun _ _ _ _ _ => pts_nil) (fun _ _ _ _ _ => pe_cl ct hG hr rfl (pa_cons (pv 8) (pa_cons (pv 12) pa_nil)) kk))
        (pss_cons (ps_if (pt_cmpR (op_neD hu) (pe_cl co hG hr rfl (pa_cons (pv 3) (pa_cons (pv 8) pa_nil)) kk) (pe_tup (pa_cons (pe_cmpR op_in_seq pe_bl (pv 9) (by rfl)) (pa_cons (pe_cmpR op_in_seq pe_bl (pv 9) (by rfl)) pa_nil))) (nomark _)) (pss_one (ps_ret pe_bl)) pss_nil)
        (pss_cons (ps_set (i := 10) ndp rfl (.inl rfl) (pe_tup (pa_cons pe_str (pa_cons (pv 8) (pa_cons (pe_tup (pa_cons pe_str (pa_cons pe_int (pa_cons pe_str pa_nil)))) (pa_cons (pe_tup (pa_cons pe_str (pa_cons pe_int (pa_cons pe_str pa_nil)))) pa_nil))))))
        (pss_cons (ps_setLc (i := 11) (own := [("one", 13)]) (g := gName 13) (tt := tYes) rfl ndp rfl rfl (by rfl) (pi_list (pv 9)) (blkOk_by (N := ["script", "bag", "turn", "holders", "node", "every", "made", "spot", "test", "seen", "choice", "due", "values", "one"]) (sc := defScope s_law) (by decide +kernel)) (fun _ _ _ _ _ => pg_name (i := 13) ndp rfl (Or.inl rfl)) (fun _ _ _ _ _ => pts_nil) (fun _ _ _ _ _ => pe_ix (ix_tup : IxR _ (rIxT K)) (pe_tup (pa_cons pe_int (pa_cons pe_int pa_nil))) (pe_callTy call_int1 (by rfl) cin (by decide +kernel) (pa_cons (pv 13) pa_nil)) (fun _ _ => rfl)))
        (pss_one (ps_if (pt_cmpR (op_neD hu) (pe_cl cbo hG hr rfl (pa_cons (pv 3) (pa_cons (pv 10) pa_nil)) kk) (pe_tup (pa_cons (pe_callB (cr_minN rfl) (by rfl) cmi (by decide +kernel) (pa_cons (pv 11) pa_nil)) (pa_cons (pe_callB (cr_maxN rfl) (by rfl) cma (by decide +kernel) (pa_cons (pv 11) pa_nil)) pa_nil))) (nomark _)) (pss_one (ps_ret pe_bl)) pss_nil))))))))))))))))) (pss_one (ps_ret pe_bl)))), ?_⟩
  refine q_raw (?_ : tCall _ _ _ _ _ _ _)
  refine ea_at (ev_var rfl) fun H0 e0 => ⟨a, ns, rfl, ex_l e0 hS, hlen, fun bg gl H1 nbg ngl e1 hB => ?_⟩
  try dsimp only [List.set]
  have e01 := e0.trans e1
  have hS1 := ex_l e01 hS
  have hnl : (ns.map V.int).length = ns.length := List.length_map ..
  refine q_forR1 (n := 8 + (if (ns.length : Int) < 16 then (ns.length : Int) else 16)) (ea_cons (ev_op ev_c (ev_min2B ev_c (ev_is (ev_len (ev_var rfl) hS1) (by rw [hnl]))) rv_I0) ea_nil) ⟨by split <;> omega, by split <;> omega⟩
    (fun i σ G => Bg bg gl H1 G ∧ BagA G bg gl (2200 * i) ∧ ∃ y2 y3 y4 y5 y6 y7 y8 y9 y10 y11, σ = [some (.ref a), some (.ref bg), y2, y3, y4, y5, y6, y7, y8, y9, y10, y11, none, none]) (fun F f => ⟨.of f, (hB.ex f).le (by omega), none, none, none, none, none, none, none, none, none, none, rfl⟩) ?_ ?_
  · intro i σ G hi hp
    obtain ⟨bu, hA, y2, y3, y4, y5, y6, y7, y8, y9, y10, y11, rfl⟩ := hp
    have hi24 : i < 24 := by split at hi <;> omega
    try dsimp only [List.set]
    refine q_raw (?_ : tCall _ _ _ _ _ _ _)
    refine ea_at (ev_var rfl) fun F1 f1 => ?_
    refine (?_ : tCons _ _ _ _ _)
    refine op_raw ((ev_c (v := .int 1)) F1 (Ex.refl F1) _ fun F2 f2 => ?_)
    refine (?_ : tCall _ _ _ _ _ _ _)
    refine bd_at (l := 4) (n := 2200 * i) (ea_cons (ev_var rfl) (ea_cons ev_c ea_nil)) (by decide) (by decide) (by omega) (hA.ex (f1.trans f2)) fun F3 v b3 A3 v0 v1 => ?_
    obtain ⟨vn, rfl⟩ : ∃ m : Nat, v = (m : Int) := ⟨v.toNat, by omega⟩
    refine ⟨1, (vn : Int), rfl, rfl, ?_⟩
    refine ea_at ev_c fun F4 f4 => ?_
    refine (?_ : tNil _ _ _)
    have i1v : (1 : Int) + (vn : Int) = ((1 + vn : Nat) : Int) := by omega
    refine ⟨bg, gl, 2200 * i + 1, 1 + vn, 7, by show [V.ref bg, V.int (1 + (vn : Int)), V.int 7] = _; rw [i1v], by omega, by decide, by decide, by omega, A3.ex f4, fun hl rows F5 nhl b5 A5 hV hBR => ?_⟩
    try dsimp only [List.set]
    have nhb := (A3.ex f4).ne nhl
    have hF := hBR.fit (by omega) (by decide)
    have hnm := hBR.name
    have hlen4 := hBR.len (by omega)
    have B5 : Bg bg gl G F5 := ((Bg.of (f1.trans f2)).trans b3).trans ((Bg.of f4).trans b5)
    refine q_raw (?_ : tCall _ _ _ _ _ _ _)
    refine ea_at (ev_var rfl) fun F6 f6 => ea_at (ev_var rfl) fun F7 f7 => ?_
    refine (?_ : tCons _ _ _ _ _)
    refine op_raw ((ev_c (v := .int 3)) F7 (Ex.refl F7) _ fun F8 f8 => ?_)
    refine (?_ : tCall _ _ _ _ _ _ _)
    have f68 := (f6.trans f7).trans f8
    refine bd_at (l := 11) (n := 2200 * i + 1 + 24) (ea_cons (ev_var rfl) (ea_cons ev_c ea_nil)) (by decide) (by decide) (by omega) (A5.ex f68) fun F9 rv b9 A9 r0 r1 => ?_
    obtain ⟨rn, rfl⟩ : ∃ m : Nat, rv = (m : Int) := ⟨rv.toNat, by omega⟩
    refine ⟨3, (rn : Int), rfl, rfl, ?_⟩
    refine (?_ : tNil _ _ _)
    have hV9 := (hV.ex f68).bg (A5.ex f68) b9 nhb.1 nhb.2
    have i3v : (3 : Int) + (rn : Int) = ((3 + rn : Nat) : Int) := by omega
    refine ⟨bg, gl, hl, 2200 * i + 1 + 24 + 1, 3 + rn, rows, by show [V.ref bg, V.ref hl, V.int (3 + (rn : Int))] = _; rw [i3v], by omega, by omega, by omega, A9, nhb.2, hV9, by omega, hF.nd, fun p nd Fa ba Aa hT hN => ?_⟩
    try dsimp only [List.set]
    have hVa := hV9.bg A9 ba nhb.1 nhb.2
    have Ba : Bg bg gl G Fa := B5.trans ((Bg.of f68).trans (b9.trans ba))
    have hI : NdIn rows nd := ⟨hN.wf, by have := hN.sz; omega, hN.vs, hN.nn⟩
    have hnsz := hN.sz
    refine q_raw (?_ : tCall _ _ _ _ _ _ _)
    refine ea_at (ev_var rfl) fun Fb fb => ⟨hl, rows, rfl, hVa.ex fb, by omega, hF.nd, fun w hw => by obtain ⟨q1, q2, q3, q4⟩ := hBR.low w hw; exact ⟨q3, q4, by omega, by omega⟩, fun el Fc nel fc hD => ?_⟩
    try dsimp only [List.set]
    have fbc := fb.trans fc
    have hX : ∀ q, Fb q = none → q ≠ bg ∧ q ≠ gl := fun q h => (Aa.ex fb).ne h
    have hz256 := allV_len (rows := rows) (fun w hw => (hBR.low w hw).2.2.2) (by omega)
    have hTc := hT.ex fbc
    have Ac := Aa.ex fbc
    refine q_raw (el_true (K := K) (ev_var rfl) hD hF hz256 hTc hI hI.sz (fun _ => rfl) (fun _ _ _ => ev_var rfl) (fun _ => rfl) Fc (Ex.refl Fc) _ fun ml Fd nml fd hm => ?_)
    try dsimp only [List.set]
    rw [made_E hN.isE] at hm
    obtain ⟨lo, hi2, hsp, l1, l2, m1, m2⟩ := sp_all hF hI.vs
    refine q_neB (K := K) rfl rfl (hVa.ex (fbc.trans fd)) hF hnm (hTc.ex fd) hI hN.isE hsp (eu_tup (ea_cons (ev_minN (ev_var rfl) hm l1 l2 (fun z => nomatch z)) (ea_cons (ev_maxN (ev_var rfl) hm m1 m2 (fun z => nomatch z)) ea_nil)) (by show 2 ≤ _; decide)) fun Fe fe => ?_
    have fce := fd.trans fe
    obtain ⟨acc, hel, hacl⟩ := (hD.ex fce).list
    have hpos : 0 < (allV rows).length := by
      have := List.length_pos_iff.mpr (numsV_ne hF (nd := nd))
      unfold numsV at this
      rw [List.length_map] at this
      exact this
    refine q_raw (bd_at (l := ((allV rows).length : Int)) (n := 2200 * i + 1 + 24 + 1 + 2000) (ea_cons (ev_var rfl) (ea_cons (ev_is (ev_len (ev_var rfl) (sq_of hel)) (by rw [hacl])) ea_nil)) (by omega) (by omega) (by omega) (Ac.ex fce) fun Ff sv bf Af s0 s1 => ?_)
    obtain ⟨sn, rfl⟩ : ∃ m : Nat, sv = (m : Int) := ⟨sv.toNat, by omega⟩
    try dsimp only [List.set]
    have hsn : sn < (allV rows).length := by omega
    have hDf := (hD.ex fce).bg nel hX bf
    have nmb := Ac.ne nml
    have hmf := bf _ _ nmb.1 nmb.2 (fe _ _ hm)
    have hTf := (hTc.ex fce).bg (Ac.ex fce) bf
    have hVf := (hVa.ex (fbc.trans fce)).bg (Ac.ex fce) bf nhb.1 nhb.2
    have Bf : Bg bg gl G Ff := Ba.trans ((Bg.of (fbc.trans fce)).trans bf)
    obtain ⟨eps, ed1, ed2, ed3⟩ := id hDf
    obtain ⟨dp, dp1, dp2, _⟩ := ed3 sn _ (List.getElem?_eq_getElem hsn)
    have hL := List.getElem_mem hsn
    have hLe : (allV rows)[sn]? = some (allV rows)[sn] := List.getElem?_eq_getElem hsn
    generalize (allV rows)[sn] = L at dp2 hL hLe
    have okL := allV_ok hF.nd hL
    have bxL := allV_bx hF.nd hF.fit hL
    have hx1 := exV_E (g := gvOf L) hN.isE
    have ev1 : ∀ {σ : L2.St}, σ[3]? = some (some (.ref hl)) → σ[4]? = some (some (.ref p)) → σ[5]? = some (some (.ref el)) → σ[7]? = some (some (.int (sn : Nat))) → Ev (tCall (PV (preMath K)) [] E0 (tCons (tVar 3) (tCons (tVar 4) (tCons (tOp (rIxL K) (tVar 5) (tVar 7)) tNil)))) σ Ff (.int (nd.num (gvOf L))) := fun q3 q4 q5 q7 => by
      rw [← hx1]
      exact ev_call (ea_cons (ev_var q3) (ea_cons (ev_var q4) (ea_cons (ev_op (ev_var q5) (ev_var q7) (rv_ixL (sq_of ed1) (atI_nat (by rw [List.getElem?_map, dp1]; rfl)))) ea_nil))) (PV.sp fun G2 e => ⟨hl, p, dp, rows, nd, gvL L, gvOf L, rfl, hVf.ex e, hF.z, hnm, hF.nd, fun w hw => (hF.fit w hw).1, hTf.ex e, hI.wf, hI.sz, hI.vs, hI.nn, e _ _ dp2, okL.vals, bxL.2, rfl⟩)
    refine q_when (b := false) (et_is (et_test (ev_op (ev1 rfl rfl rfl rfl) (ev_op (z := .int (nd.num (gvOf L))) (ev_var rfl) (ev_var rfl) (rv_ixL (sq_of hmf) (atI_nat ?_))) (rv_ne rfl))) (by rw [decide_eq_true rfl]; rfl)) (fun z => nomatch z) (fun _ Fg fg => ?_)
    · unfold numsV
      rw [List.getElem?_map, List.getElem?_map, hLe]
      show some (kV true (nd.nm (gvOf L))) = _
      rw [nm_E hN.isE]
      rfl
    refine if_raw (test_raw (op_raw (?_ : tCB _ _ _ _ _)))
    refine (?_ : tCons _ _ _ _ _)
    refine (?_ : tCall _ _ _ _ _ _ _)
    refine ea_at (ev_var rfl) fun Fh fh => ⟨p, nd, rfl, hTf.ex (fg.trans fh), by omega, by omega, fun ll qs Fi ni fi hli hPl => ?_⟩
    refine ⟨ll, _, rfl, .inl (sq_of hli), ?_⟩
    refine (ev_c (v := .int 3)) Fi (Ex.refl Fi) _ fun Fj fj => ⟨_, _, rfl, rfl, _, rfl, ?_⟩
    have fgj := (fg.trans fh).trans (fi.trans fj)
    have Aj := Af.ex fgj
    have Bj : Bg bg gl H1 Fj := bu.trans (Bf.trans (.of fgj))
    split
    · exact ⟨Bj, Aj.le (by omega), _, _, _, _, _, _, _, _, _, _, rfl⟩
    refine next_raw ?_
    try dsimp only
    have hVj := hVf.ex fgj
    have hTj := hTf.ex fgj
    have hmj := fgj _ _ hmf
    have hDj := hDf.ex fgj
    refine q_raw (tup_raw (ea_at ev_c fun G1 g1 => ea_at (ev_var rfl) fun G2 g2 => ?_))
    refine (?_ : tCons _ _ _ _ _)
    refine tup_raw (ea_at ev_c fun G3 g3 => ?_)
    refine (?_ : tCons _ _ _ _ _)
    refine (?_ : tCB _ _ _ _ _)
    refine ea_at ev_c fun G4 g4 => ?_
    refine (?_ : tCons _ _ _ _ _)
    have g14 := (g1.trans g2).trans (g3.trans g4)
    refine op_raw ((ev_minN (ev_var rfl) (g14 _ _ hmj) l1 l2 (fun z => nomatch z)) G4 (Ex.refl G4) _ fun G5 g5 => ?_)
    refine (?_ : tCall _ _ _ _ _ _ _)
    have g15 := g14.trans g5
    refine bd_at (l := 4) (n := 2200 * i + 1 + 24 + 1 + 2000 + 1) (ea_cons (ev_var rfl) (ea_cons ev_c ea_nil)) (by decide) (by decide) (by omega) (Aj.ex g15) fun G6 v6 b6 A6 v60 v61 => ⟨lo, v6, rfl, rfl, ?_⟩
    refine (?_ : tNil _ _ _)
    refine ⟨0, lo + v6, rfl, ?_⟩
    have hlo : lo.natAbs < 2 ^ 101 := by
      obtain ⟨M, hM, e⟩ := List.mem_map.mp l1
      have h1 := num_nb (hBR.small M hM) hN.wf hN.ls
      have h2 : 2 ^ nd.nb ≤ 2 ^ 101 := pw_le (by
        have h3 := hN.nb
        have h4 : nF (3 + rn) ≤ 101 := (by decide : ∀ m : Nat, m < 11 → nF (3 + m) ≤ 101) rn (by omega)
        omega)
      have h5 : lo = nd.num (gvOf M) := by rw [← nm_E hN.isE]; exact e.symm
      rw [h5]
      omega
    obtain ⟨am, ham, am0, am1⟩ : ∃ am : Int, (if lo + v6 > 0 then lo + v6 else 0) = am ∧ 0 ≤ am ∧ am < 2 ^ 136 := ⟨_, rfl, by split <;> omega, by split <;> omega⟩
    rw [ham]
    refine ea_at ev_c fun G7 g7 => ?_
    refine (?_ : tNil _ _ _)
    refine (⟨by show 3 ≤ sizeLine; decide, fun lp nlp => ?_⟩ : _ ∧ _)
    have g8 : Ex G7 (upd G7 lp (.tup [.str "lit", .int am, .str ""])) := Ex.new nlp
    have h8 : (upd G7 lp (.tup [.str "lit", .int am, .str ""])) lp = some (.tup [.str "lit", .int am, .str ""]) := upd_same
    generalize upd G7 lp (.tup [.str "lit", .int am, .str ""]) = G8 at g8 h8 ⊢
    refine (?_ : tNil _ _ _)
    refine (⟨by show 3 ≤ sizeLine; decide, fun tp ntp => ?_⟩ : _ ∧ _)
    have g9 : Ex G8 (upd G8 tp (.tup [.str "most", .ref p, .ref lp])) := Ex.new ntp
    have h9 : (upd G8 tp (.tup [.str "most", .ref p, .ref lp])) tp = some (.tup [.str "most", .ref p, .ref lp]) := upd_same
    generalize upd G8 tp (.tup [.str "most", .ref p, .ref lp]) = G9 at g9 h9 ⊢
    try dsimp only [List.set]
    have g69 := g7.trans (g8.trans g9)
    have B9 : Bg bg gl Fj G9 := (Bg.of g15).trans (b6.trans (.of g69))
    have A9 := A6.ex g69
    have hT9 : TreeAt G9 tp (.cmp false nd (.lit am "")) := ⟨p, lp, h9, hTj.bg Aj B9, g9 _ _ h8⟩
    refine q_cut (M := fun σ' F => Bg bg gl Fj F ∧ BagA F bg gl (2200 * i + 1 + 24 + 1 + 2000 + 1 + 1 + 1) ∧ ∃ T tq, TreeAt F tq T ∧ TOk rows nd T ∧ σ' = [some (.ref a), some (.ref bg), some (.int (i : Nat)), some (.ref hl), some (.ref p), some (.ref el), some (.ref ml), some (.int (sn : Nat)), some (.ref tq), y9, y10, y11, none, none]) ?_ ?_
    · refine if_raw (test_raw (op_raw (bd_at (l := 2) (n := 2200 * i + 1 + 24 + 1 + 2000 + 1 + 1) (ea_cons (ev_var rfl) (ea_cons ev_c ea_nil)) (by decide) (by decide) (by omega) A9 fun Ga va ba Aa va0 va1 => ⟨rfl, _, rfl, ?_⟩)))
      have hTa := hT9.bg A9 ba
      split
      · refine (?_ : tTup _ _ _ _)
        refine tup_raw (ea_at ev_c fun Gb gb => ea_at (ev_var rfl) fun Gc gc => ?_)
        refine (?_ : tNil _ _ _)
        refine (⟨by show 2 ≤ sizeLine; decide, fun tq ntq => ?_⟩ : _ ∧ _)
        have gd := (gb.trans gc).trans (Ex.new (o := .tup [.str "not", .ref tp]) ntq)
        exact ⟨(B9.trans ba).trans (.of gd), (Aa.ex gd).le (by omega), Nd.nt (.cmp false nd (.lit am "")), tq, ⟨tp, upd_same, hTa.ex gd⟩, TOk.nt hN.isE hN.wf am0 am1, rfl⟩
      · exact ⟨B9.trans ba, Aa.le (by omega), _, tp, hTa, TOk.cmp hN.isE hN.wf am0 am1, rfl⟩
    · intro σ' F hM
      obtain ⟨BF, AF, T, tq, hTF, tok, rfl⟩ := hM
      have hVF := hVj.bg Aj BF nhb.1 nhb.2
      have hDF := hDj.bg nel hX BF
      have hIT := tok.inn hI hnsz
      obtain ⟨lo3, hi3, hsp3, k1, k2, k3, k4⟩ := sp_all hF hIT.vs
      obtain ⟨t1, t2⟩ := tru_any tok.isE k1 k2 k3 k4
      refine q_raw (el_true (K := K) (ev_var rfl) hDF hF hz256 hTF hIT hIT.sz (fun _ => rfl) (fun _ _ _ => ev_var rfl) (fun _ => rfl) F (Ex.refl F) _ fun sl Fk nsl fk hs => ?_)
      try dsimp only [List.set]
      rw [made_C tok.isE] at hs
      refine q_neO (K := K) rfl rfl (hVF.ex fk) hF hnm (hTF.ex fk) hIT tok.isE hsp3 (eu_tup (ea_cons (ev_inBs (ev_var rfl) hs (by rw [any_id, t1])) (ea_cons (ev_inBs (ev_var rfl) hs (by rw [any_not, t2])) ea_nil)) (by show 2 ≤ _; decide)) fun Fl fl => ?_
      refine q_raw (tup_raw (ea_at ev_c fun Fm fm => ea_at (ev_var rfl) fun Fn fn => ea_atU (eu_tup (ea_cons ev_c (ea_cons ev_c (ea_cons ev_c ea_nil))) (by show 3 ≤ _; decide)) fun q3 Fo n3 fo h3 => ea_atU (eu_tup (ea_cons ev_c (ea_cons ev_c (ea_cons ev_c ea_nil))) (by show 3 ≤ _; decide)) fun q8 Fp n8 fp h8' => ?_))
      refine (?_ : tNil _ _ _)
      refine (⟨by show 4 ≤ sizeLine; decide, fun cq ncq => ?_⟩ : _ ∧ _)
      have fq : Ex Fp (upd Fp cq (.tup [.str "if", .ref tq, .ref q3, .ref q8])) := Ex.new ncq
      have hq : (upd Fp cq (.tup [.str "if", .ref tq, .ref q3, .ref q8])) cq = some (.tup [.str "if", .ref tq, .ref q3, .ref q8]) := upd_same
      generalize upd Fp cq (.tup [.str "if", .ref tq, .ref q3, .ref q8]) = Fq at fq hq ⊢
      try dsimp only [List.set]
      have fkq := fk.trans (fl.trans (fm.trans (fn.trans (fo.trans (fp.trans fq)))))
      have fkl := fl.trans (fm.trans (fn.trans (fo.trans (fp.trans fq))))
      have hTc : TreeAt Fq cq (choN T) := ⟨tq, q3, q8, hq, hTF.ex fkq, (fp.trans fq) _ _ h3, fq _ _ h8'⟩
      have hIc := tok.cho hI hnsz
      obtain ⟨lo4, hi4, hsp4, c1, c2, c3, c4⟩ := sp_all hF hIc.vs
      have hsq := fkl _ _ hs
      have hbl : (truV rows T).length ≤ 256 := by unfold truV; rw [List.length_map]; exact hz256
      refine q_raw (el_lcLA (K := K) (xs := (truV rows T).map V.bl) (fun c => V.int (if (truV rows T).getD c false = true then 3 else 8)) (ev_var rfl) (sq_of hsq) (by rw [List.length_map]; omega) (fun _ => rfl) (fun c x G2 e2 hc => ?_) Fq (Ex.refl Fq) _ fun dl Fr ndl fr hd => ?_)
      · rw [List.getElem?_map] at hc
        obtain ⟨b, hb, rfl⟩ := Option.map_eq_some_iff.mp hc
        have hgd : (truV rows T).getD c false = b := by rw [List.getD_eq_getElem?_getD, hb]; rfl
        show Ev _ _ _ (.int (if (truV rows T).getD c false = true then 3 else 8))
        rw [hgd]
        exact ev_pickB (K := K) ev_c ev_c (ev_var rfl) (by cases b <;> rfl)
      rw [List.length_map, given_all (truV rows T) (fun b => V.int (if b = true then 3 else 8)) false, due_cho] at hd
      try dsimp only [List.set]
      have fkr := fkq.trans fr
      refine s_neB (K := K) rfl rfl (hVF.ex fkr) hF hnm (hTc.ex fr) hIc rfl hsp4 (eu_tup (ea_cons (ev_minN (ev_var rfl) hd c1 c2 (fun z => nomatch z)) (ea_cons (ev_maxN (ev_var rfl) hd c3 c4 (fun z => nomatch z)) ea_nil)) (by show 2 ≤ _; decide)) fun Fs fs => ?_
      have fks := fkr.trans fs
      exact ⟨(Bj.trans BF).trans (.of fks), (AF.ex fks).le (by omega), _, _, _, _, _, _, _, _, _, _, rfl⟩
  · intro σ G hp
    obtain ⟨bu, hA, y2, y3, y4, y5, y6, y7, y8, y9, y10, y11, rfl⟩ := hp
    exact s_ret ev_c fun G2 f2 => hQ G2

end
theorem df_mk {K : PySem.W.Frag} {h : Heap} {mg : Str → Option Value} {x : Str} {st : Stmt} {ps : List Str} {f : Addr} {oc : Value} {od an : Option Addr} {sl : Array (Option Value)} {kV dc pm cd ct : Value} (X : K.In h) (G : h.Ns mainGlobals mg)
    (a : PySem.W.nsIn K mainGlobals x = some (some (.ref f))) (l : K.lookup f = some ⟨oc, od, .func (PySem.W.fnOf x x (defArgs st) (defBody st) (defScope st) .none kV dc pm an cd ct), sl⟩) (c : PySem.W.codeIn K cd x = true) (k : PySem.W.keepIn K (.ref f) = true)
    (hb : ∀ (kV doc pm : Value) (an : Option Addr) (cdv ct : Value) (us : List Value), us.length = ps.length → bindArgs (PySem.W.fnOf x x (defArgs st) (defBody st) (defScope st) .none kV doc pm an cdv ct) ⟨us, []⟩ = pure (ps.zip us)) :
    Df K mg x st ps f (PySem.W.fnOf x x (defArgs st) (defBody st) (defScope st) .none kV dc pm an cd ct) :=
  ⟨fun_mk l c k, PySem.W.mg_of X G a, (fun_mk l c k).binds hb⟩
theorem dd_mk {K : PySem.W.Frag} {h : Heap} {mg : Str → Option Value} {x : Str} {st : Stmt} {ps : List Str} {n : Nat} {f T : Addr} {oc tc : Value} {od an td : Option Addr} {sl tsl : Array (Option Value)} {kV dc pm cd ct : Value} {e0 : Addr} {tn : Nat} (X : K.In h) (G : h.Ns mainGlobals mg)
    (a : PySem.W.nsIn K mainGlobals x = some (some (.ref f))) (l : K.lookup f = some ⟨oc, od, .func (PySem.W.fnOf x x (defArgs st) (defBody st) (defScope st) (.ref T) kV dc pm an cd ct), sl⟩) (c : PySem.W.codeIn K cd x = true) (k : PySem.W.keepIn K (.ref f) = true)
    (d : K.lookup T = some ⟨tc, td, .seq #[.ref e0] tn, tsl⟩) (hn : n + 1 = ps.length)
    (h2 : ∀ (T : Addr) (kV doc pm : Value) (an : Option Addr) (cdv ct : Value) (us its : List Value), us.length = n + 1 → its.length = 1 →
      ∃ k, bindArgs (PySem.W.fnOf x x (defArgs st) (defBody st) (defScope st) (.ref T) kV doc pm an cdv ct) ⟨us, []⟩ = seqItems? (.ref T) >>= k ∧ k (some its.toArray) = pure (ps.zip (us ++ its.drop 1)))
    (h1 : ∀ (T : Addr) (kV doc pm : Value) (an : Option Addr) (cdv ct : Value) (us its : List Value), us.length = n → its.length = 1 →
      ∃ k, bindArgs (PySem.W.fnOf x x (defArgs st) (defBody st) (defScope st) (.ref T) kV doc pm an cdv ct) ⟨us, []⟩ = seqItems? (.ref T) >>= k ∧ k (some its.toArray) = pure (ps.zip (us ++ its.drop 0))) :
    Dd K mg x st ps [.ref e0] f (PySem.W.fnOf x x (defArgs st) (defBody st) (defScope st) (.ref T) kV dc pm an cd ct) := by
  have F : FunD K x x (defArgs st) (defBody st) (defScope st) [.ref e0] [] f (PySem.W.fnOf x x (defArgs st) (defBody st) (defScope st) (.ref T) kV dc pm an cd ct) :=
    ⟨⟨oc, od, .ref T, kV, dc, pm, an, cd, ct, sl, rfl, l, c, .inr ⟨(fun z => nomatch z), T, _, [.ref e0], tn, rfl, d, rfl, .cons rfl .nil⟩, .inl rfl⟩, k⟩
  refine ⟨F, PySem.W.mg_of X G a, ?_, F.binds1 n 0 (fun z => nomatch z) hn h1⟩
  obtain ⟨ds, r, b⟩ := F.binds1 (ps := ps) (n + 1) 1 (fun z => nomatch z) hn h2
  cases r
  exact b
theorem sqt_mk {K : PySem.W.Frag} {q : Addr} {od : Option Addr} {its : Array Value} {m : Nat} {sl : Array (Option Value)} {xs : List V} (l : K.lookup q = some ⟨.type "tuple", od, .seq its m, sl⟩) (v : Vals xs its.toList) (z : xs.length ≤ 1000) : ∀ H, SqT K H q xs := fun H => .inr ⟨_, its, m, l, rfl, rfl, by
    have e := v.length
    have s := sizeLine_eq
    have e2 : its.toList.length = its.size := Array.length_toList
    omega, v⟩
theorem ct_mk {K : PySem.W.Frag} {h : Heap} {mg : Str → Option Value} {x : Str} {xs : List V} {q : Addr} {od : Option Addr} {its : Array Value} {m : Nat} {sl : Array (Option Value)} (X : K.In h) (G : h.Ns mainGlobals mg)
    (a : PySem.W.nsIn K mainGlobals x = some (some (.ref q))) (l : K.lookup q = some ⟨.type "tuple", od, .seq its m, sl⟩) (v : Vals xs its.toList) (z : xs.length ≤ 1000) : CT K mg x xs := ⟨q, PySem.W.mg_of X G a, sqt_mk l v z⟩
theorem ci_mk {K : PySem.W.Frag} {h : Heap} {mg : Str → Option Value} {x : Str} {i : Int} {t : Tok} (X : K.In h) (G : h.Ns mainGlobals mg) (a : PySem.W.nsIn K mainGlobals x = some (some (.int i t))) : CI mg x i := ⟨t, PySem.W.mg_of X G a⟩
theorem size_pos (nd : Nd) : 1 ≤ nd.size := by
  rw [size_sum]
  omega
theorem no_node {K : PySem.W.Frag} {vs : List V} {H : Hp} {Q : VK} {E : XK} (h : spNode K 0 vs H Q E) : False := by
  obtain ⟨t, p, x, u, pt, nd, ns, _, _, _, _, _, h, _⟩ := h
  have := size_pos nd
  omega
theorem no_all {K : PySem.W.Frag} {vs : List V} {H : Hp} {Q : VK} {E : XK} (h : spAll K 0 vs H Q E) : False := by
  obtain ⟨p, t, nd, pt, _, _, h, _⟩ := h
  have := size_pos nd
  omega
theorem no_adm {K : PySem.W.Frag} {vs : List V} {H : Hp} {Q : VK} {E : XK} (h : spAdm K 0 vs H Q E) : False := by
  obtain ⟨sch, l, p, t, m, rows, nd, pt, _, _, _, _, _, _, h, _⟩ := h
  have := size_pos nd
  omega
theorem no_put {K : PySem.W.Frag} {vs : List V} {H : Hp} {Q : VK} {E : XK} (h : spPut K 0 vs H Q E) : False := by
  obtain ⟨r, p, sch, n, nd, m, _, h, _⟩ := h
  have := size_pos nd
  omega
theorem no_add {K : PySem.W.Frag} {vs : List V} {H : Hp} {Q : VK} {E : XK} (h : spAddRows K 0 vs H Q E) : False := by
  obtain ⟨l, t, p, nd, pt, its, X, _, _, h, _⟩ := h
  have := size_pos nd
  omega
theorem no_lab {K : PySem.W.Frag} {vs : List V} {H : Hp} {Q : VK} {E : XK} (h : PV (preLab K 0) vs H Q E) : False := by
  obtain ⟨v, ⟨sch, nm, q, m, rows, nd, _, _, _, _, _, _, h, _⟩, _⟩ := h
  have := size_pos nd
  omega
theorem no_right {K : PySem.W.Frag} {vs : List V} {H : Hp} {Q : VK} {E : XK} (h : PV (preRight K 0) vs H Q E) : False := by
  obtain ⟨v, ⟨sch, l, p, m, rows, nd, _, _, h, _⟩, _⟩ := h
  have := size_pos nd
  omega

theorem all_mk {Pr : Program} {w : World} {K : PySem.W.Frag} {h : Heap} {mg : Str → Option Value} {fa : Addr} (X : K.In h) (G : h.Ns mainGlobals mg) (hfa : mg "law" = some (.ref fa))
    {f_is_name : Addr} {oc_is_name kV_is_name dc_is_name pm_is_name cd_is_name ct_is_name : Value} {od_is_name an_is_name : Option Addr} {sl_is_name : Array (Option Value)}
    {f_check_variables : Addr} {oc_check_variables kV_check_variables dc_check_variables pm_check_variables cd_check_variables ct_check_variables : Value} {od_check_variables an_check_variables : Option Addr} {sl_check_variables : Array (Option Value)}
    {f_fits : Addr} {oc_fits kV_fits dc_fits pm_fits cd_fits ct_fits : Value} {od_fits an_fits : Option Addr} {sl_fits : Array (Option Value)}
    {f_has_items : Addr} {oc_has_items kV_has_items dc_has_items pm_has_items cd_has_items ct_has_items : Value} {od_has_items an_has_items : Option Addr} {sl_has_items : Array (Option Value)}
    {f_has_form : Addr} {oc_has_form kV_has_form dc_has_form pm_has_form cd_has_form ct_has_form : Value} {od_has_form an_has_form : Option Addr} {sl_has_form : Array (Option Value)}
    {f_parts : Addr} {oc_parts kV_parts dc_parts pm_parts cd_parts ct_parts : Value} {od_parts an_parts : Option Addr} {sl_parts : Array (Option Value)}
    {f_check_node : Addr} {oc_check_node kV_check_node dc_check_node pm_check_node cd_check_node ct_check_node : Value} {od_check_node an_check_node : Option Addr} {sl_check_node : Array (Option Value)}
    {f_check_expression : Addr} {oc_check_expression kV_check_expression dc_check_expression pm_check_expression cd_check_expression ct_check_expression : Value} {od_check_expression an_check_expression : Option Addr} {sl_check_expression : Array (Option Value)}
    {f_add_rows : Addr} {oc_add_rows kV_add_rows dc_add_rows pm_add_rows cd_add_rows ct_add_rows : Value} {od_add_rows an_add_rows : Option Addr} {sl_add_rows : Array (Option Value)}
    {f_rows_of : Addr} {oc_rows_of kV_rows_of dc_rows_of pm_rows_of cd_rows_of ct_rows_of : Value} {od_rows_of an_rows_of : Option Addr} {sl_rows_of : Array (Option Value)}
    {f_check_values : Addr} {oc_check_values kV_check_values dc_check_values pm_check_values cd_check_values ct_check_values : Value} {od_check_values an_check_values : Option Addr} {sl_check_values : Array (Option Value)}
    {f_exact_pair : Addr} {oc_exact_pair kV_exact_pair dc_exact_pair pm_exact_pair cd_exact_pair ct_exact_pair : Value} {od_exact_pair an_exact_pair : Option Addr} {sl_exact_pair : Array (Option Value)}
    {f_exact : Addr} {oc_exact kV_exact dc_exact pm_exact cd_exact ct_exact : Value} {od_exact an_exact : Option Addr} {sl_exact : Array (Option Value)}
    {f_mathematical : Addr} {oc_mathematical kV_mathematical dc_mathematical pm_mathematical cd_mathematical ct_mathematical : Value} {od_mathematical an_mathematical : Option Addr} {sl_mathematical : Array (Option Value)}
    {f_corners : Addr} {oc_corners kV_corners dc_corners pm_corners cd_corners ct_corners : Value} {od_corners an_corners : Option Addr} {sl_corners : Array (Option Value)}
    {f_spans_of : Addr} {oc_spans_of kV_spans_of dc_spans_of pm_spans_of cd_spans_of ct_spans_of : Value} {od_spans_of an_spans_of : Option Addr} {sl_spans_of : Array (Option Value)}
    {f_bounds : Addr} {oc_bounds kV_bounds dc_bounds pm_bounds cd_bounds ct_bounds : Value} {od_bounds an_bounds : Option Addr} {sl_bounds : Array (Option Value)}
    {f_outcomes : Addr} {oc_outcomes kV_outcomes dc_outcomes pm_outcomes cd_outcomes ct_outcomes : Value} {od_outcomes an_outcomes : Option Addr} {sl_outcomes : Array (Option Value)}
    {f_law_bag : Addr} {oc_law_bag kV_law_bag dc_law_bag pm_law_bag cd_law_bag ct_law_bag : Value} {od_law_bag an_law_bag : Option Addr} {sl_law_bag : Array (Option Value)}
    {f_law_draw : Addr} {oc_law_draw kV_law_draw dc_law_draw pm_law_draw cd_law_draw ct_law_draw : Value} {od_law_draw an_law_draw : Option Addr} {sl_law_draw : Array (Option Value)}
    {f_law_sorts : Addr} {oc_law_sorts kV_law_sorts dc_law_sorts pm_law_sorts cd_law_sorts ct_law_sorts : Value} {od_law_sorts an_law_sorts : Option Addr} {sl_law_sorts : Array (Option Value)}
    {f_law_leaf : Addr} {oc_law_leaf kV_law_leaf dc_law_leaf pm_law_leaf cd_law_leaf ct_law_leaf : Value} {od_law_leaf an_law_leaf : Option Addr} {sl_law_leaf : Array (Option Value)}
    {f_law_tree : Addr} {oc_law_tree kV_law_tree dc_law_tree pm_law_tree cd_law_tree ct_law_tree : Value} {od_law_tree an_law_tree : Option Addr} {sl_law_tree : Array (Option Value)}
    {f_law_test : Addr} {oc_law_test kV_law_test dc_law_test pm_law_test cd_law_test ct_law_test : Value} {od_law_test an_law_test : Option Addr} {sl_law_test : Array (Option Value)}
    {f_law_holders : Addr} {oc_law_holders kV_law_holders dc_law_holders pm_law_holders cd_law_holders ct_law_holders : Value} {od_law_holders an_law_holders : Option Addr} {sl_law_holders : Array (Option Value)}
    {f_law_parts : Addr} {oc_law_parts kV_law_parts dc_law_parts pm_law_parts cd_law_parts ct_law_parts : Value} {od_law_parts an_law_parts : Option Addr} {sl_law_parts : Array (Option Value)}
    {f_law_literals : Addr} {oc_law_literals kV_law_literals dc_law_literals pm_law_literals cd_law_literals ct_law_literals : Value} {od_law_literals an_law_literals : Option Addr} {sl_law_literals : Array (Option Value)}
    {f_law_count : Addr} {oc_law_count kV_law_count dc_law_count pm_law_count cd_law_count ct_law_count : Value} {od_law_count an_law_count : Option Addr} {sl_law_count : Array (Option Value)}
    {f_law_drawn : Addr} {oc_law_drawn kV_law_drawn dc_law_drawn pm_law_drawn cd_law_drawn ct_law_drawn : Value} {od_law_drawn an_law_drawn : Option Addr} {sl_law_drawn : Array (Option Value)}
    {f_law_power : Addr} {oc_law_power kV_law_power dc_law_power pm_law_power cd_law_power ct_law_power : Value} {od_law_power an_law_power : Option Addr} {sl_law_power : Array (Option Value)}
    {f_law_true : Addr} {oc_law_true kV_law_true dc_law_true pm_law_true cd_law_true ct_law_true : Value} {od_law_true an_law_true : Option Addr} {sl_law_true : Array (Option Value)}
    {f_law_all_values : Addr} {oc_law_all_values kV_law_all_values dc_law_all_values pm_law_all_values cd_law_all_values ct_law_all_values : Value} {od_law_all_values an_law_all_values : Option Addr} {sl_law_all_values : Array (Option Value)}
    {f_law : Addr} {oc_law kV_law dc_law pm_law cd_law ct_law : Value} {od_law an_law : Option Addr} {sl_law : Array (Option Value)}
    {qKINDS : Addr} {qdKINDS : Option Addr} {itsKINDS : Array Value} {qmKINDS : Nat} {qsKINDS : Array (Option Value)}
    {qRESERVED : Addr} {qdRESERVED : Option Addr} {itsRESERVED : Array Value} {qmRESERVED : Nat} {qsRESERVED : Array (Option Value)}
    {qSUFFIXES : Addr} {qdSUFFIXES : Option Addr} {itsSUFFIXES : Array Value} {qmSUFFIXES : Nat} {qsSUFFIXES : Array (Option Value)}
    {qCONDITIONS : Addr} {qdCONDITIONS : Option Addr} {itsCONDITIONS : Array Value} {qmCONDITIONS : Nat} {qsCONDITIONS : Array (Option Value)}
    {qPART_FORMS : Addr} {qdPART_FORMS : Option Addr} {itsPART_FORMS : Array Value} {qmPART_FORMS : Nat} {qsPART_FORMS : Array (Option Value)}
    {tILONGEST_NAME : Tok}
    {qI : Addr} {esI : Array DictEntry} {nI : Nat}
    {wt0 : Addr} {wd0 : Option Addr} {wi0 : Array Value} {wm0 : Nat} {ws0 : Array (Option Value)}
    {wt1 : Addr} {wd1 : Option Addr} {wi1 : Array Value} {wm1 : Nat} {ws1 : Array (Option Value)}
    {wt2 : Addr} {wd2 : Option Addr} {wi2 : Array Value} {wm2 : Nat} {ws2 : Array (Option Value)}
    {wt3 : Addr} {wd3 : Option Addr} {wi3 : Array Value} {wm3 : Nat} {ws3 : Array (Option Value)}
    {wt4 : Addr} {wd4 : Option Addr} {wi4 : Array Value} {wm4 : Nat} {ws4 : Array (Option Value)}
    {wt5 : Addr} {wd5 : Option Addr} {wi5 : Array Value} {wm5 : Nat} {ws5 : Array (Option Value)}
    {wt6 : Addr} {wd6 : Option Addr} {wi6 : Array Value} {wm6 : Nat} {ws6 : Array (Option Value)}
    {wt7 : Addr} {wd7 : Option Addr} {wi7 : Array Value} {wm7 : Nat} {ws7 : Array (Option Value)}
    {wt8 : Addr} {wd8 : Option Addr} {wi8 : Array Value} {wm8 : Nat} {ws8 : Array (Option Value)}
    {wt9 : Addr} {wd9 : Option Addr} {wi9 : Array Value} {wm9 : Nat} {ws9 : Array (Option Value)}
    {wt10 : Addr} {wd10 : Option Addr} {wi10 : Array Value} {wm10 : Nat} {ws10 : Array (Option Value)}
    {wt11 : Addr} {wd11 : Option Addr} {wi11 : Array Value} {wm11 : Nat} {ws11 : Array (Option Value)}
    {wt12 : Addr} {wd12 : Option Addr} {wi12 : Array Value} {wm12 : Nat} {ws12 : Array (Option Value)}
    {wt13 : Addr} {wd13 : Option Addr} {wi13 : Array Value} {wm13 : Nat} {ws13 : Array (Option Value)}
    {wt14 : Addr} {wd14 : Option Addr} {wi14 : Array Value} {wm14 : Nat} {ws14 : Array (Option Value)}
    {tL : Tok}
    (a_is_name : PySem.W.nsIn K mainGlobals "is_name" = some (some (.ref f_is_name)))
    (l_is_name : K.lookup f_is_name = some ⟨oc_is_name, od_is_name, .func (PySem.W.fnOf "is_name" "is_name" (defArgs s_is_name) (defBody s_is_name) (defScope s_is_name) .none kV_is_name dc_is_name pm_is_name an_is_name cd_is_name ct_is_name), sl_is_name⟩)
    (c_is_name : PySem.W.codeIn K cd_is_name "is_name" = true)
    (k_is_name : PySem.W.keepIn K (.ref f_is_name) = true)
    (a_check_variables : PySem.W.nsIn K mainGlobals "check_variables" = some (some (.ref f_check_variables)))
    (l_check_variables : K.lookup f_check_variables = some ⟨oc_check_variables, od_check_variables, .func (PySem.W.fnOf "check_variables" "check_variables" (defArgs s_check_variables) (defBody s_check_variables) (defScope s_check_variables) .none kV_check_variables dc_check_variables pm_check_variables an_check_variables cd_check_variables ct_check_variables), sl_check_variables⟩)
    (c_check_variables : PySem.W.codeIn K cd_check_variables "check_variables" = true)
    (k_check_variables : PySem.W.keepIn K (.ref f_check_variables) = true)
    (a_fits : PySem.W.nsIn K mainGlobals "_fits" = some (some (.ref f_fits)))
    (l_fits : K.lookup f_fits = some ⟨oc_fits, od_fits, .func (PySem.W.fnOf "_fits" "_fits" (defArgs s__fits) (defBody s__fits) (defScope s__fits) .none kV_fits dc_fits pm_fits an_fits cd_fits ct_fits), sl_fits⟩)
    (c_fits : PySem.W.codeIn K cd_fits "_fits" = true)
    (k_fits : PySem.W.keepIn K (.ref f_fits) = true)
    (a_has_items : PySem.W.nsIn K mainGlobals "_has_items" = some (some (.ref f_has_items)))
    (l_has_items : K.lookup f_has_items = some ⟨oc_has_items, od_has_items, .func (PySem.W.fnOf "_has_items" "_has_items" (defArgs s__has_items) (defBody s__has_items) (defScope s__has_items) .none kV_has_items dc_has_items pm_has_items an_has_items cd_has_items ct_has_items), sl_has_items⟩)
    (c_has_items : PySem.W.codeIn K cd_has_items "_has_items" = true)
    (k_has_items : PySem.W.keepIn K (.ref f_has_items) = true)
    (a_has_form : PySem.W.nsIn K mainGlobals "_has_form" = some (some (.ref f_has_form)))
    (l_has_form : K.lookup f_has_form = some ⟨oc_has_form, od_has_form, .func (PySem.W.fnOf "_has_form" "_has_form" (defArgs s__has_form) (defBody s__has_form) (defScope s__has_form) .none kV_has_form dc_has_form pm_has_form an_has_form cd_has_form ct_has_form), sl_has_form⟩)
    (c_has_form : PySem.W.codeIn K cd_has_form "_has_form" = true)
    (k_has_form : PySem.W.keepIn K (.ref f_has_form) = true)
    (a_parts : PySem.W.nsIn K mainGlobals "parts" = some (some (.ref f_parts)))
    (l_parts : K.lookup f_parts = some ⟨oc_parts, od_parts, .func (PySem.W.fnOf "parts" "parts" (defArgs s_parts) (defBody s_parts) (defScope s_parts) .none kV_parts dc_parts pm_parts an_parts cd_parts ct_parts), sl_parts⟩)
    (c_parts : PySem.W.codeIn K cd_parts "parts" = true)
    (k_parts : PySem.W.keepIn K (.ref f_parts) = true)
    (a_check_node : PySem.W.nsIn K mainGlobals "_check_node" = some (some (.ref f_check_node)))
    (l_check_node : K.lookup f_check_node = some ⟨oc_check_node, od_check_node, .func (PySem.W.fnOf "_check_node" "_check_node" (defArgs s__check_node) (defBody s__check_node) (defScope s__check_node) .none kV_check_node dc_check_node pm_check_node an_check_node cd_check_node ct_check_node), sl_check_node⟩)
    (c_check_node : PySem.W.codeIn K cd_check_node "_check_node" = true)
    (k_check_node : PySem.W.keepIn K (.ref f_check_node) = true)
    (a_check_expression : PySem.W.nsIn K mainGlobals "check_expression" = some (some (.ref f_check_expression)))
    (l_check_expression : K.lookup f_check_expression = some ⟨oc_check_expression, od_check_expression, .func (PySem.W.fnOf "check_expression" "check_expression" (defArgs s_check_expression) (defBody s_check_expression) (defScope s_check_expression) .none kV_check_expression dc_check_expression pm_check_expression an_check_expression cd_check_expression ct_check_expression), sl_check_expression⟩)
    (c_check_expression : PySem.W.codeIn K cd_check_expression "check_expression" = true)
    (k_check_expression : PySem.W.keepIn K (.ref f_check_expression) = true)
    (a_add_rows : PySem.W.nsIn K mainGlobals "_add_rows" = some (some (.ref f_add_rows)))
    (l_add_rows : K.lookup f_add_rows = some ⟨oc_add_rows, od_add_rows, .func (PySem.W.fnOf "_add_rows" "_add_rows" (defArgs s__add_rows) (defBody s__add_rows) (defScope s__add_rows) .none kV_add_rows dc_add_rows pm_add_rows an_add_rows cd_add_rows ct_add_rows), sl_add_rows⟩)
    (c_add_rows : PySem.W.codeIn K cd_add_rows "_add_rows" = true)
    (k_add_rows : PySem.W.keepIn K (.ref f_add_rows) = true)
    (a_rows_of : PySem.W.nsIn K mainGlobals "rows_of" = some (some (.ref f_rows_of)))
    (l_rows_of : K.lookup f_rows_of = some ⟨oc_rows_of, od_rows_of, .func (PySem.W.fnOf "rows_of" "rows_of" (defArgs s_rows_of) (defBody s_rows_of) (defScope s_rows_of) .none kV_rows_of dc_rows_of pm_rows_of an_rows_of cd_rows_of ct_rows_of), sl_rows_of⟩)
    (c_rows_of : PySem.W.codeIn K cd_rows_of "rows_of" = true)
    (k_rows_of : PySem.W.keepIn K (.ref f_rows_of) = true)
    (a_check_values : PySem.W.nsIn K mainGlobals "check_values" = some (some (.ref f_check_values)))
    (l_check_values : K.lookup f_check_values = some ⟨oc_check_values, od_check_values, .func (PySem.W.fnOf "check_values" "check_values" (defArgs s_check_values) (defBody s_check_values) (defScope s_check_values) .none kV_check_values dc_check_values pm_check_values an_check_values cd_check_values ct_check_values), sl_check_values⟩)
    (c_check_values : PySem.W.codeIn K cd_check_values "check_values" = true)
    (k_check_values : PySem.W.keepIn K (.ref f_check_values) = true)
    (a_exact_pair : PySem.W.nsIn K mainGlobals "_exact_pair" = some (some (.ref f_exact_pair)))
    (l_exact_pair : K.lookup f_exact_pair = some ⟨oc_exact_pair, od_exact_pair, .func (PySem.W.fnOf "_exact_pair" "_exact_pair" (defArgs s__exact_pair) (defBody s__exact_pair) (defScope s__exact_pair) .none kV_exact_pair dc_exact_pair pm_exact_pair an_exact_pair cd_exact_pair ct_exact_pair), sl_exact_pair⟩)
    (c_exact_pair : PySem.W.codeIn K cd_exact_pair "_exact_pair" = true)
    (k_exact_pair : PySem.W.keepIn K (.ref f_exact_pair) = true)
    (a_exact : PySem.W.nsIn K mainGlobals "exact" = some (some (.ref f_exact)))
    (l_exact : K.lookup f_exact = some ⟨oc_exact, od_exact, .func (PySem.W.fnOf "exact" "exact" (defArgs s_exact) (defBody s_exact) (defScope s_exact) .none kV_exact dc_exact pm_exact an_exact cd_exact ct_exact), sl_exact⟩)
    (c_exact : PySem.W.codeIn K cd_exact "exact" = true)
    (k_exact : PySem.W.keepIn K (.ref f_exact) = true)
    (a_mathematical : PySem.W.nsIn K mainGlobals "mathematical" = some (some (.ref f_mathematical)))
    (l_mathematical : K.lookup f_mathematical = some ⟨oc_mathematical, od_mathematical, .func (PySem.W.fnOf "mathematical" "mathematical" (defArgs s_mathematical) (defBody s_mathematical) (defScope s_mathematical) .none kV_mathematical dc_mathematical pm_mathematical an_mathematical cd_mathematical ct_mathematical), sl_mathematical⟩)
    (c_mathematical : PySem.W.codeIn K cd_mathematical "mathematical" = true)
    (k_mathematical : PySem.W.keepIn K (.ref f_mathematical) = true)
    (a_corners : PySem.W.nsIn K mainGlobals "corners" = some (some (.ref f_corners)))
    (l_corners : K.lookup f_corners = some ⟨oc_corners, od_corners, .func (PySem.W.fnOf "corners" "corners" (defArgs s_corners) (defBody s_corners) (defScope s_corners) .none kV_corners dc_corners pm_corners an_corners cd_corners ct_corners), sl_corners⟩)
    (c_corners : PySem.W.codeIn K cd_corners "corners" = true)
    (k_corners : PySem.W.keepIn K (.ref f_corners) = true)
    (a_spans_of : PySem.W.nsIn K mainGlobals "spans_of" = some (some (.ref f_spans_of)))
    (l_spans_of : K.lookup f_spans_of = some ⟨oc_spans_of, od_spans_of, .func (PySem.W.fnOf "spans_of" "spans_of" (defArgs s_spans_of) (defBody s_spans_of) (defScope s_spans_of) .none kV_spans_of dc_spans_of pm_spans_of an_spans_of cd_spans_of ct_spans_of), sl_spans_of⟩)
    (c_spans_of : PySem.W.codeIn K cd_spans_of "spans_of" = true)
    (k_spans_of : PySem.W.keepIn K (.ref f_spans_of) = true)
    (a_bounds : PySem.W.nsIn K mainGlobals "bounds" = some (some (.ref f_bounds)))
    (l_bounds : K.lookup f_bounds = some ⟨oc_bounds, od_bounds, .func (PySem.W.fnOf "bounds" "bounds" (defArgs s_bounds) (defBody s_bounds) (defScope s_bounds) .none kV_bounds dc_bounds pm_bounds an_bounds cd_bounds ct_bounds), sl_bounds⟩)
    (c_bounds : PySem.W.codeIn K cd_bounds "bounds" = true)
    (k_bounds : PySem.W.keepIn K (.ref f_bounds) = true)
    (a_outcomes : PySem.W.nsIn K mainGlobals "outcomes" = some (some (.ref f_outcomes)))
    (l_outcomes : K.lookup f_outcomes = some ⟨oc_outcomes, od_outcomes, .func (PySem.W.fnOf "outcomes" "outcomes" (defArgs s_outcomes) (defBody s_outcomes) (defScope s_outcomes) .none kV_outcomes dc_outcomes pm_outcomes an_outcomes cd_outcomes ct_outcomes), sl_outcomes⟩)
    (c_outcomes : PySem.W.codeIn K cd_outcomes "outcomes" = true)
    (k_outcomes : PySem.W.keepIn K (.ref f_outcomes) = true)
    (a_law_bag : PySem.W.nsIn K mainGlobals "_law_bag" = some (some (.ref f_law_bag)))
    (l_law_bag : K.lookup f_law_bag = some ⟨oc_law_bag, od_law_bag, .func (PySem.W.fnOf "_law_bag" "_law_bag" (defArgs s__law_bag) (defBody s__law_bag) (defScope s__law_bag) .none kV_law_bag dc_law_bag pm_law_bag an_law_bag cd_law_bag ct_law_bag), sl_law_bag⟩)
    (c_law_bag : PySem.W.codeIn K cd_law_bag "_law_bag" = true)
    (k_law_bag : PySem.W.keepIn K (.ref f_law_bag) = true)
    (a_law_draw : PySem.W.nsIn K mainGlobals "_law_draw" = some (some (.ref f_law_draw)))
    (l_law_draw : K.lookup f_law_draw = some ⟨oc_law_draw, od_law_draw, .func (PySem.W.fnOf "_law_draw" "_law_draw" (defArgs s__law_draw) (defBody s__law_draw) (defScope s__law_draw) .none kV_law_draw dc_law_draw pm_law_draw an_law_draw cd_law_draw ct_law_draw), sl_law_draw⟩)
    (c_law_draw : PySem.W.codeIn K cd_law_draw "_law_draw" = true)
    (k_law_draw : PySem.W.keepIn K (.ref f_law_draw) = true)
    (a_law_sorts : PySem.W.nsIn K mainGlobals "_law_sorts" = some (some (.ref f_law_sorts)))
    (l_law_sorts : K.lookup f_law_sorts = some ⟨oc_law_sorts, od_law_sorts, .func (PySem.W.fnOf "_law_sorts" "_law_sorts" (defArgs s__law_sorts) (defBody s__law_sorts) (defScope s__law_sorts) .none kV_law_sorts dc_law_sorts pm_law_sorts an_law_sorts cd_law_sorts ct_law_sorts), sl_law_sorts⟩)
    (c_law_sorts : PySem.W.codeIn K cd_law_sorts "_law_sorts" = true)
    (k_law_sorts : PySem.W.keepIn K (.ref f_law_sorts) = true)
    (a_law_leaf : PySem.W.nsIn K mainGlobals "_law_leaf" = some (some (.ref f_law_leaf)))
    (l_law_leaf : K.lookup f_law_leaf = some ⟨oc_law_leaf, od_law_leaf, .func (PySem.W.fnOf "_law_leaf" "_law_leaf" (defArgs s__law_leaf) (defBody s__law_leaf) (defScope s__law_leaf) .none kV_law_leaf dc_law_leaf pm_law_leaf an_law_leaf cd_law_leaf ct_law_leaf), sl_law_leaf⟩)
    (c_law_leaf : PySem.W.codeIn K cd_law_leaf "_law_leaf" = true)
    (k_law_leaf : PySem.W.keepIn K (.ref f_law_leaf) = true)
    (a_law_tree : PySem.W.nsIn K mainGlobals "_law_tree" = some (some (.ref f_law_tree)))
    (l_law_tree : K.lookup f_law_tree = some ⟨oc_law_tree, od_law_tree, .func (PySem.W.fnOf "_law_tree" "_law_tree" (defArgs s__law_tree) (defBody s__law_tree) (defScope s__law_tree) .none kV_law_tree dc_law_tree pm_law_tree an_law_tree cd_law_tree ct_law_tree), sl_law_tree⟩)
    (c_law_tree : PySem.W.codeIn K cd_law_tree "_law_tree" = true)
    (k_law_tree : PySem.W.keepIn K (.ref f_law_tree) = true)
    (a_law_test : PySem.W.nsIn K mainGlobals "_law_test" = some (some (.ref f_law_test)))
    (l_law_test : K.lookup f_law_test = some ⟨oc_law_test, od_law_test, .func (PySem.W.fnOf "_law_test" "_law_test" (defArgs s__law_test) (defBody s__law_test) (defScope s__law_test) .none kV_law_test dc_law_test pm_law_test an_law_test cd_law_test ct_law_test), sl_law_test⟩)
    (c_law_test : PySem.W.codeIn K cd_law_test "_law_test" = true)
    (k_law_test : PySem.W.keepIn K (.ref f_law_test) = true)
    (a_law_holders : PySem.W.nsIn K mainGlobals "_law_holders" = some (some (.ref f_law_holders)))
    (l_law_holders : K.lookup f_law_holders = some ⟨oc_law_holders, od_law_holders, .func (PySem.W.fnOf "_law_holders" "_law_holders" (defArgs s__law_holders) (defBody s__law_holders) (defScope s__law_holders) .none kV_law_holders dc_law_holders pm_law_holders an_law_holders cd_law_holders ct_law_holders), sl_law_holders⟩)
    (c_law_holders : PySem.W.codeIn K cd_law_holders "_law_holders" = true)
    (k_law_holders : PySem.W.keepIn K (.ref f_law_holders) = true)
    (a_law_parts : PySem.W.nsIn K mainGlobals "_law_parts" = some (some (.ref f_law_parts)))
    (l_law_parts : K.lookup f_law_parts = some ⟨oc_law_parts, od_law_parts, .func (PySem.W.fnOf "_law_parts" "_law_parts" (defArgs s__law_parts) (defBody s__law_parts) (defScope s__law_parts) .none kV_law_parts dc_law_parts pm_law_parts an_law_parts cd_law_parts ct_law_parts), sl_law_parts⟩)
    (c_law_parts : PySem.W.codeIn K cd_law_parts "_law_parts" = true)
    (k_law_parts : PySem.W.keepIn K (.ref f_law_parts) = true)
    (a_law_literals : PySem.W.nsIn K mainGlobals "_law_literals" = some (some (.ref f_law_literals)))
    (l_law_literals : K.lookup f_law_literals = some ⟨oc_law_literals, od_law_literals, .func (PySem.W.fnOf "_law_literals" "_law_literals" (defArgs s__law_literals) (defBody s__law_literals) (defScope s__law_literals) .none kV_law_literals dc_law_literals pm_law_literals an_law_literals cd_law_literals ct_law_literals), sl_law_literals⟩)
    (c_law_literals : PySem.W.codeIn K cd_law_literals "_law_literals" = true)
    (k_law_literals : PySem.W.keepIn K (.ref f_law_literals) = true)
    (a_law_count : PySem.W.nsIn K mainGlobals "_law_count" = some (some (.ref f_law_count)))
    (l_law_count : K.lookup f_law_count = some ⟨oc_law_count, od_law_count, .func (PySem.W.fnOf "_law_count" "_law_count" (defArgs s__law_count) (defBody s__law_count) (defScope s__law_count) .none kV_law_count dc_law_count pm_law_count an_law_count cd_law_count ct_law_count), sl_law_count⟩)
    (c_law_count : PySem.W.codeIn K cd_law_count "_law_count" = true)
    (k_law_count : PySem.W.keepIn K (.ref f_law_count) = true)
    (a_law_drawn : PySem.W.nsIn K mainGlobals "_law_drawn" = some (some (.ref f_law_drawn)))
    (l_law_drawn : K.lookup f_law_drawn = some ⟨oc_law_drawn, od_law_drawn, .func (PySem.W.fnOf "_law_drawn" "_law_drawn" (defArgs s__law_drawn) (defBody s__law_drawn) (defScope s__law_drawn) .none kV_law_drawn dc_law_drawn pm_law_drawn an_law_drawn cd_law_drawn ct_law_drawn), sl_law_drawn⟩)
    (c_law_drawn : PySem.W.codeIn K cd_law_drawn "_law_drawn" = true)
    (k_law_drawn : PySem.W.keepIn K (.ref f_law_drawn) = true)
    (a_law_power : PySem.W.nsIn K mainGlobals "_law_power" = some (some (.ref f_law_power)))
    (l_law_power : K.lookup f_law_power = some ⟨oc_law_power, od_law_power, .func (PySem.W.fnOf "_law_power" "_law_power" (defArgs s__law_power) (defBody s__law_power) (defScope s__law_power) .none kV_law_power dc_law_power pm_law_power an_law_power cd_law_power ct_law_power), sl_law_power⟩)
    (c_law_power : PySem.W.codeIn K cd_law_power "_law_power" = true)
    (k_law_power : PySem.W.keepIn K (.ref f_law_power) = true)
    (a_law_true : PySem.W.nsIn K mainGlobals "_law_true" = some (some (.ref f_law_true)))
    (l_law_true : K.lookup f_law_true = some ⟨oc_law_true, od_law_true, .func (PySem.W.fnOf "_law_true" "_law_true" (defArgs s__law_true) (defBody s__law_true) (defScope s__law_true) .none kV_law_true dc_law_true pm_law_true an_law_true cd_law_true ct_law_true), sl_law_true⟩)
    (c_law_true : PySem.W.codeIn K cd_law_true "_law_true" = true)
    (k_law_true : PySem.W.keepIn K (.ref f_law_true) = true)
    (a_law_all_values : PySem.W.nsIn K mainGlobals "_law_all_values" = some (some (.ref f_law_all_values)))
    (l_law_all_values : K.lookup f_law_all_values = some ⟨oc_law_all_values, od_law_all_values, .func (PySem.W.fnOf "_law_all_values" "_law_all_values" (defArgs s__law_all_values) (defBody s__law_all_values) (defScope s__law_all_values) .none kV_law_all_values dc_law_all_values pm_law_all_values an_law_all_values cd_law_all_values ct_law_all_values), sl_law_all_values⟩)
    (c_law_all_values : PySem.W.codeIn K cd_law_all_values "_law_all_values" = true)
    (k_law_all_values : PySem.W.keepIn K (.ref f_law_all_values) = true)
    (a_law : PySem.W.nsIn K mainGlobals "law" = some (some (.ref f_law)))
    (l_law : K.lookup f_law = some ⟨oc_law, od_law, .func (PySem.W.fnOf "law" "law" (defArgs s_law) (defBody s_law) (defScope s_law) .none kV_law dc_law pm_law an_law cd_law ct_law), sl_law⟩)
    (c_law : PySem.W.codeIn K cd_law "law" = true)
    (k_law : PySem.W.keepIn K (.ref f_law) = true)
    (taKINDS : PySem.W.nsIn K mainGlobals "KINDS" = some (some (.ref qKINDS)))
    (tlKINDS : K.lookup qKINDS = some ⟨.type "tuple", qdKINDS, .seq itsKINDS qmKINDS, qsKINDS⟩)
    (tvKINDS : Vals vKINDS itsKINDS.toList)
    (taRESERVED : PySem.W.nsIn K mainGlobals "RESERVED" = some (some (.ref qRESERVED)))
    (tlRESERVED : K.lookup qRESERVED = some ⟨.type "tuple", qdRESERVED, .seq itsRESERVED qmRESERVED, qsRESERVED⟩)
    (tvRESERVED : Vals vRESERVED itsRESERVED.toList)
    (taSUFFIXES : PySem.W.nsIn K mainGlobals "SUFFIXES" = some (some (.ref qSUFFIXES)))
    (tlSUFFIXES : K.lookup qSUFFIXES = some ⟨.type "tuple", qdSUFFIXES, .seq itsSUFFIXES qmSUFFIXES, qsSUFFIXES⟩)
    (tvSUFFIXES : Vals vSUFFIXES itsSUFFIXES.toList)
    (taCONDITIONS : PySem.W.nsIn K mainGlobals "CONDITIONS" = some (some (.ref qCONDITIONS)))
    (tlCONDITIONS : K.lookup qCONDITIONS = some ⟨.type "tuple", qdCONDITIONS, .seq itsCONDITIONS qmCONDITIONS, qsCONDITIONS⟩)
    (tvCONDITIONS : Vals vCONDITIONS itsCONDITIONS.toList)
    (taPART_FORMS : PySem.W.nsIn K mainGlobals "PART_FORMS" = some (some (.ref qPART_FORMS)))
    (tlPART_FORMS : K.lookup qPART_FORMS = some ⟨.type "tuple", qdPART_FORMS, .seq itsPART_FORMS qmPART_FORMS, qsPART_FORMS⟩)
    (tvPART_FORMS : Vals vPARTS itsPART_FORMS.toList)
    (iaLONGEST_NAME : PySem.W.nsIn K mainGlobals "LONGEST_NAME" = some (some (.int 8 tILONGEST_NAME)))
    (wa : PySem.W.nsIn K mainGlobals "ITEMS" = some (some (.ref qI)))
    (wl : K.lookup qI = some ⟨.type "dict", none, .dict esI nI, #[]⟩)
    (wk : PySem.W.KeysLit w.params esI.toList)
    (wz : (qI == sysModules) = false)
    (w0 : PySem.W.nsIn K qI "var" = some (some (.ref wt0)))
    (wl0 : K.lookup wt0 = some ⟨.type "tuple", wd0, .seq wi0 wm0, ws0⟩)
    (wv0 : Vals [.str "name"] wi0.toList)
    (w1 : PySem.W.nsIn K qI "lit" = some (some (.ref wt1)))
    (wl1 : K.lookup wt1 = some ⟨.type "tuple", wd1, .seq wi1 wm1, ws1⟩)
    (wv1 : Vals [.str "number", .str "suffix"] wi1.toList)
    (w2 : PySem.W.nsIn K qI "cast" = some (some (.ref wt2)))
    (wl2 : K.lookup wt2 = some ⟨.type "tuple", wd2, .seq wi2 wm2, ws2⟩)
    (wv2 : Vals [.str "kind", .str "expression"] wi2.toList)
    (w3 : PySem.W.nsIn K qI "neg" = some (some (.ref wt3)))
    (wl3 : K.lookup wt3 = some ⟨.type "tuple", wd3, .seq wi3 wm3, ws3⟩)
    (wv3 : Vals [.str "expression"] wi3.toList)
    (w4 : PySem.W.nsIn K qI "add" = some (some (.ref wt4)))
    (wl4 : K.lookup wt4 = some ⟨.type "tuple", wd4, .seq wi4 wm4, ws4⟩)
    (wv4 : Vals [.str "expression", .str "expression"] wi4.toList)
    (w5 : PySem.W.nsIn K qI "sub" = some (some (.ref wt5)))
    (wl5 : K.lookup wt5 = some ⟨.type "tuple", wd5, .seq wi5 wm5, ws5⟩)
    (wv5 : Vals [.str "expression", .str "expression"] wi5.toList)
    (w6 : PySem.W.nsIn K qI "mul" = some (some (.ref wt6)))
    (wl6 : K.lookup wt6 = some ⟨.type "tuple", wd6, .seq wi6 wm6, ws6⟩)
    (wv6 : Vals [.str "expression", .str "expression"] wi6.toList)
    (w7 : PySem.W.nsIn K qI "shl" = some (some (.ref wt7)))
    (wl7 : K.lookup wt7 = some ⟨.type "tuple", wd7, .seq wi7 wm7, ws7⟩)
    (wv7 : Vals [.str "expression", .str "number"] wi7.toList)
    (w8 : PySem.W.nsIn K qI "shr" = some (some (.ref wt8)))
    (wl8 : K.lookup wt8 = some ⟨.type "tuple", wd8, .seq wi8 wm8, ws8⟩)
    (wv8 : Vals [.str "expression", .str "number"] wi8.toList)
    (w9 : PySem.W.nsIn K qI "if" = some (some (.ref wt9)))
    (wl9 : K.lookup wt9 = some ⟨.type "tuple", wd9, .seq wi9 wm9, ws9⟩)
    (wv9 : Vals [.str "condition", .str "expression", .str "expression"] wi9.toList)
    (w10 : PySem.W.nsIn K qI "less" = some (some (.ref wt10)))
    (wl10 : K.lookup wt10 = some ⟨.type "tuple", wd10, .seq wi10 wm10, ws10⟩)
    (wv10 : Vals [.str "expression", .str "expression"] wi10.toList)
    (w11 : PySem.W.nsIn K qI "most" = some (some (.ref wt11)))
    (wl11 : K.lookup wt11 = some ⟨.type "tuple", wd11, .seq wi11 wm11, ws11⟩)
    (wv11 : Vals [.str "expression", .str "expression"] wi11.toList)
    (w12 : PySem.W.nsIn K qI "not" = some (some (.ref wt12)))
    (wl12 : K.lookup wt12 = some ⟨.type "tuple", wd12, .seq wi12 wm12, ws12⟩)
    (wv12 : Vals [.str "condition"] wi12.toList)
    (w13 : PySem.W.nsIn K qI "and" = some (some (.ref wt13)))
    (wl13 : K.lookup wt13 = some ⟨.type "tuple", wd13, .seq wi13 wm13, ws13⟩)
    (wv13 : Vals [.str "condition", .str "condition"] wi13.toList)
    (w14 : PySem.W.nsIn K qI "or" = some (some (.ref wt14)))
    (wl14 : K.lookup wt14 = some ⟨.type "tuple", wd14, .seq wi14 wm14, ws14⟩)
    (wv14 : Vals [.str "condition", .str "condition"] wi14.toList)
    (la : PySem.W.nsIn K mainGlobals "LETTERS" = some (some (.str sLETTERS tL)))
    (z_len : PySem.W.nsIn K mainGlobals "len" = some none)
    (z_enumerate : PySem.W.nsIn K mainGlobals "enumerate" = some none)
    (z_all : PySem.W.nsIn K mainGlobals "all" = some none)
    (z_zip : PySem.W.nsIn K mainGlobals "zip" = some none)
    (z_isinstance : PySem.W.nsIn K mainGlobals "isinstance" = some none)
    (z_int : PySem.W.nsIn K mainGlobals "int" = some none)
    (z_tuple : PySem.W.nsIn K mainGlobals "tuple" = some none)
    (z_abs : PySem.W.nsIn K mainGlobals "abs" = some none)
    (z_range : PySem.W.nsIn K mainGlobals "range" = some none)
    (z_min : PySem.W.nsIn K mainGlobals "min" = some none)
    (z_max : PySem.W.nsIn K mainGlobals "max" = some none)
    (z_sum : PySem.W.nsIn K mainGlobals "sum" = some none)
    (z_dict : PySem.W.nsIn K mainGlobals "dict" = some none) :
    ∃ fd : FuncData, (∀ (s : Shared) (u : Value), BindsTo s fd ⟨[u], []⟩ [("script", u)]) ∧ ∀ base : Heap, K.In base → base.Ns mainGlobals mg → FnG Pr w K mg base CX0 53 fa fd ["script"] (spLaw K) := by
  have e := hfa.symm.trans (PySem.W.mg_of X G a_law)
  cases e
  have D_is_name := df_mk (st := s_is_name) (ps := ["text"]) X G a_is_name l_is_name c_is_name k_is_name fun _ _ _ _ _ _ us hl => match us, hl with | [_], _ => rfl
  have D_check_variables := df_mk (st := s_check_variables) (ps := ["variables"]) X G a_check_variables l_check_variables c_check_variables k_check_variables fun _ _ _ _ _ _ us hl => match us, hl with | [_], _ => rfl
  have D_fits := df_mk (st := s__fits) (ps := ["form", "item", "unused"]) X G a_fits l_fits c_fits k_fits fun _ _ _ _ _ _ us hl => match us, hl with | [_, _, _], _ => rfl
  have D_has_items := df_mk (st := s__has_items) (ps := ["node", "unused"]) X G a_has_items l_has_items c_has_items k_has_items fun _ _ _ _ _ _ us hl => match us, hl with | [_, _], _ => rfl
  have D_has_form := df_mk (st := s__has_form) (ps := ["node", "needed"]) X G a_has_form l_has_form c_has_form k_has_form fun _ _ _ _ _ _ us hl => match us, hl with | [_, _], _ => rfl
  have D_parts := df_mk (st := s_parts) (ps := ["node"]) X G a_parts l_parts c_parts k_parts fun _ _ _ _ _ _ us hl => match us, hl with | [_], _ => rfl
  have D_check_node := df_mk (st := s__check_node) (ps := ["path", "node", "needed", "unused"]) X G a_check_node l_check_node c_check_node k_check_node fun _ _ _ _ _ _ us hl => match us, hl with | [_, _, _, _], _ => rfl
  have D_check_expression := df_mk (st := s_check_expression) (ps := ["variables", "expression"]) X G a_check_expression l_check_expression c_check_expression k_check_expression fun _ _ _ _ _ _ us hl => match us, hl with | [_, _], _ => rfl
  have D_add_rows := df_mk (st := s__add_rows) (ps := ["rows", "path", "node"]) X G a_add_rows l_add_rows c_add_rows k_add_rows fun _ _ _ _ _ _ us hl => match us, hl with | [_, _, _], _ => rfl
  have D_rows_of := df_mk (st := s_rows_of) (ps := ["expression"]) X G a_rows_of l_rows_of c_rows_of k_rows_of fun _ _ _ _ _ _ us hl => match us, hl with | [_], _ => rfl
  have D_check_values := df_mk (st := s_check_values) (ps := ["variables", "values"]) X G a_check_values l_check_values c_check_values k_check_values fun _ _ _ _ _ _ us hl => match us, hl with | [_, _], _ => rfl
  have D_exact_pair := df_mk (st := s__exact_pair) (ps := ["word", "first", "second"]) X G a_exact_pair l_exact_pair c_exact_pair k_exact_pair fun _ _ _ _ _ _ us hl => match us, hl with | [_, _, _], _ => rfl
  have D_exact := df_mk (st := s_exact) (ps := ["node", "of_parts"]) X G a_exact l_exact c_exact k_exact fun _ _ _ _ _ _ us hl => match us, hl with | [_, _], _ => rfl
  have D_mathematical := df_mk (st := s_mathematical) (ps := ["variables", "expression", "values"]) X G a_mathematical l_mathematical c_mathematical k_mathematical fun _ _ _ _ _ _ us hl => match us, hl with | [_, _, _], _ => rfl
  have D_corners := df_mk (st := s_corners) (ps := ["spans"]) X G a_corners l_corners c_corners k_corners fun _ _ _ _ _ _ us hl => match us, hl with | [_], _ => rfl
  have D_spans_of := df_mk (st := s_spans_of) (ps := ["variables", "rows"]) X G a_spans_of l_spans_of c_spans_of k_spans_of fun _ _ _ _ _ _ us hl => match us, hl with | [_, _], _ => rfl
  have D_bounds := df_mk (st := s_bounds) (ps := ["variables", "expression"]) X G a_bounds l_bounds c_bounds k_bounds fun _ _ _ _ _ _ us hl => match us, hl with | [_, _], _ => rfl
  have D_outcomes := df_mk (st := s_outcomes) (ps := ["variables", "condition"]) X G a_outcomes l_outcomes c_outcomes k_outcomes fun _ _ _ _ _ _ us hl => match us, hl with | [_, _], _ => rfl
  have D_law_bag := df_mk (st := s__law_bag) (ps := ["script"]) X G a_law_bag l_law_bag c_law_bag k_law_bag fun _ _ _ _ _ _ us hl => match us, hl with | [_], _ => rfl
  have D_law_draw := df_mk (st := s__law_draw) (ps := ["bag", "many"]) X G a_law_draw l_law_draw c_law_draw k_law_draw fun _ _ _ _ _ _ us hl => match us, hl with | [_, _], _ => rfl
  have D_law_sorts := df_mk (st := s__law_sorts) (ps := []) X G a_law_sorts l_law_sorts c_law_sorts k_law_sorts fun _ _ _ _ _ _ us hl => match us, hl with | [], _ => rfl
  have D_law_leaf := df_mk (st := s__law_leaf) (ps := ["bag", "names"]) X G a_law_leaf l_law_leaf c_law_leaf k_law_leaf fun _ _ _ _ _ _ us hl => match us, hl with | [_, _], _ => rfl
  have D_law_tree := df_mk (st := s__law_tree) (ps := ["bag", "names", "room"]) X G a_law_tree l_law_tree c_law_tree k_law_tree fun _ _ _ _ _ _ us hl => match us, hl with | [_, _, _], _ => rfl
  have D_law_test := df_mk (st := s__law_test) (ps := ["bag", "names", "room"]) X G a_law_test l_law_test c_law_test k_law_test fun _ _ _ _ _ _ us hl => match us, hl with | [_, _, _], _ => rfl
  have D_law_holders := df_mk (st := s__law_holders) (ps := ["bag", "many", "wide"]) X G a_law_holders l_law_holders c_law_holders k_law_holders fun _ _ _ _ _ _ us hl => match us, hl with | [_, _, _], _ => rfl
  have D_law_parts := df_mk (st := s__law_parts) (ps := ["node"]) X G a_law_parts l_law_parts c_law_parts k_law_parts fun _ _ _ _ _ _ us hl => match us, hl with | [_], _ => rfl
  have D_law_literals := df_mk (st := s__law_literals) (ps := ["node"]) X G a_law_literals l_law_literals c_law_literals k_law_literals fun _ _ _ _ _ _ us hl => match us, hl with | [_], _ => rfl
  have D_law_count := df_mk (st := s__law_count) (ps := ["node"]) X G a_law_count l_law_count c_law_count k_law_count fun _ _ _ _ _ _ us hl => match us, hl with | [_], _ => rfl
  have D_law_drawn := df_mk (st := s__law_drawn) (ps := ["bag", "holders", "room"]) X G a_law_drawn l_law_drawn c_law_drawn k_law_drawn fun _ _ _ _ _ _ us hl => match us, hl with | [_, _, _], _ => rfl
  have D_law_power := df_mk (st := s__law_power) (ps := ["span"]) X G a_law_power l_law_power c_law_power k_law_power fun _ _ _ _ _ _ us hl => match us, hl with | [_], _ => rfl
  have D_law_true := df_mk (st := s__law_true) (ps := ["node", "values"]) X G a_law_true l_law_true c_law_true k_law_true fun _ _ _ _ _ _ us hl => match us, hl with | [_, _], _ => rfl
  have D_law_all_values := df_mk (st := s__law_all_values) (ps := ["holders"]) X G a_law_all_values l_law_all_values c_law_all_values k_law_all_values fun _ _ _ _ _ _ us hl => match us, hl with | [_], _ => rfl
  have D_law := df_mk (st := s_law) (ps := ["script"]) X G a_law l_law c_law k_law fun _ _ _ _ _ _ us hl => match us, hl with | [_], _ => rfl
  have T_KINDS : CT K mg "KINDS" vKINDS := ct_mk X G taKINDS tlKINDS tvKINDS (by decide)
  have T_RESERVED : CT K mg "RESERVED" vRESERVED := ct_mk X G taRESERVED tlRESERVED tvRESERVED (by decide)
  have T_SUFFIXES : CT K mg "SUFFIXES" vSUFFIXES := ct_mk X G taSUFFIXES tlSUFFIXES tvSUFFIXES (by decide)
  have T_CONDITIONS : CT K mg "CONDITIONS" vCONDITIONS := ct_mk X G taCONDITIONS tlCONDITIONS tvCONDITIONS (by decide)
  have T_PART_FORMS : CT K mg "PART_FORMS" vPARTS := ct_mk X G taPART_FORMS tlPART_FORMS tvPART_FORMS (by decide)
  have I_LONGEST_NAME : CI mg "LONGEST_NAME" 8 := ci_mk X G iaLONGEST_NAME
  have T_ITEMS : CIt K w mg := ⟨qI, esI, nI, PySem.W.mg_of X G wa, ⟨wl, wk, wz⟩, fun nd => match nd with
    | .var _ => ⟨wt0, w0, sqt_mk wl0 wv0 (by show 1 ≤ 1000; decide)⟩
    | .lit _ _ => ⟨wt1, w1, sqt_mk wl1 wv1 (by show 2 ≤ 1000; decide)⟩
    | .cast _ _ => ⟨wt2, w2, sqt_mk wl2 wv2 (by show 2 ≤ 1000; decide)⟩
    | .neg _ => ⟨wt3, w3, sqt_mk wl3 wv3 (by show 1 ≤ 1000; decide)⟩
    | .bin .add _ _ => ⟨wt4, w4, sqt_mk wl4 wv4 (by show 2 ≤ 1000; decide)⟩
    | .bin .sub _ _ => ⟨wt5, w5, sqt_mk wl5 wv5 (by show 2 ≤ 1000; decide)⟩
    | .bin .mul _ _ => ⟨wt6, w6, sqt_mk wl6 wv6 (by show 2 ≤ 1000; decide)⟩
    | .sh true _ _ => ⟨wt7, w7, sqt_mk wl7 wv7 (by show 2 ≤ 1000; decide)⟩
    | .sh false _ _ => ⟨wt8, w8, sqt_mk wl8 wv8 (by show 2 ≤ 1000; decide)⟩
    | .ite _ _ _ => ⟨wt9, w9, sqt_mk wl9 wv9 (by show 3 ≤ 1000; decide)⟩
    | .cmp true _ _ => ⟨wt10, w10, sqt_mk wl10 wv10 (by show 2 ≤ 1000; decide)⟩
    | .cmp false _ _ => ⟨wt11, w11, sqt_mk wl11 wv11 (by show 2 ≤ 1000; decide)⟩
    | .nt _ => ⟨wt12, w12, sqt_mk wl12 wv12 (by show 1 ≤ 1000; decide)⟩
    | .lg true _ _ => ⟨wt13, w13, sqt_mk wl13 wv13 (by show 2 ≤ 1000; decide)⟩
    | .lg false _ _ => ⟨wt14, w14, sqt_mk wl14 wv14 (by show 2 ≤ 1000; decide)⟩⟩
  have T_LETTERS : CS mg "LETTERS" sLETTERS := ⟨tL, PySem.W.mg_of X G la⟩
  have N_len : mg "len" = none := PySem.W.mg_none_of X G z_len
  have N_enumerate : mg "enumerate" = none := PySem.W.mg_none_of X G z_enumerate
  have N_all : mg "all" = none := PySem.W.mg_none_of X G z_all
  have N_zip : mg "zip" = none := PySem.W.mg_none_of X G z_zip
  have N_isinstance : mg "isinstance" = none := PySem.W.mg_none_of X G z_isinstance
  have N_int : mg "int" = none := PySem.W.mg_none_of X G z_int
  have N_tuple : mg "tuple" = none := PySem.W.mg_none_of X G z_tuple
  have N_abs : mg "abs" = none := PySem.W.mg_none_of X G z_abs
  have N_range : mg "range" = none := PySem.W.mg_none_of X G z_range
  have N_min : mg "min" = none := PySem.W.mg_none_of X G z_min
  have N_max : mg "max" = none := PySem.W.mg_none_of X G z_max
  have N_sum : mg "sum" = none := PySem.W.mg_none_of X G z_sum
  have N_dict : mg "dict" = none := PySem.W.mg_none_of X G z_dict
  refine ⟨PySem.W.fnOf "law" "law" (defArgs s_law) (defBody s_law) (defScope s_law) .none kV_law dc_law pm_law an_law cd_law ct_law, fun s v => .of_eq rfl, fun base _ _ => ?_⟩
  have C_is_name := Cl.mk D_is_name (ok_is_name (P := Pr) (w := w) (base := base) D_is_name T_KINDS T_RESERVED I_LONGEST_NAME T_LETTERS N_len N_all)
  have C_check_variables := Cl.mk D_check_variables (ok_check_variables (P := Pr) (w := w) (base := base) D_check_variables C_is_name T_KINDS N_enumerate)
  have C_fits := Cl.mk D_fits (ok__fits (P := Pr) (w := w) (base := base) D_fits T_SUFFIXES T_KINDS N_isinstance N_int)
  have C_has_items := Cl.mk D_has_items (ok__has_items (P := Pr) (w := w) (base := base) D_has_items T_ITEMS C_fits N_zip N_all)
  have C_has_form := Cl.mk D_has_form (ok__has_form (P := Pr) (w := w) (base := base) D_has_form T_ITEMS T_CONDITIONS N_isinstance N_tuple N_len)
  have C_parts := Cl.mk D_parts (ok_parts (P := Pr) (w := w) (base := base) D_parts T_ITEMS T_PART_FORMS N_zip)
  have C_check_node := Cl.mk D_check_node (rec_ok (c := 2) (sp := spNode K) (fun vs H Q E h => no_node h) (fun d F => step__check_node (P := Pr) (w := w) (base := base) D_check_node (by omega) T_ITEMS T_PART_FORMS C_has_form C_has_items C_parts N_zip N_enumerate (Cl.mk D_check_node F)) 30)
  have C_check_expression := Cl.mk D_check_expression ((ok_check_expression (P := Pr) (w := w) (base := base) (k := 32) D_check_expression C_check_node).mono (show 33 ≤ 39 by decide))
  have C_add_rows := Cl.mk D_add_rows (rec_ok (c := 1) (sp := spAddRows K) (fun vs H Q E h => no_add h) (fun d F => step__add_rows (P := Pr) (w := w) (base := base) (k := 1 + d) D_add_rows (by omega) C_parts N_enumerate N_len (Cl.mk D_add_rows F)) 30)
  have C_rows_of := Cl.mk D_rows_of ((ok_rows_of (P := Pr) (w := w) (base := base) (k := 31) D_rows_of C_add_rows).mono (show 32 ≤ 39 by decide))
  have C_check_values := Cl.mk D_check_values (ok_check_values (P := Pr) (w := w) (base := base) D_check_values)
  have C_exact_pair := Cl.mk D_exact_pair (ok__exact_pair (P := Pr) (w := w) (base := base) D_exact_pair)
  have C_exact := Cl.mk D_exact (ok_exact (P := Pr) (w := w) (base := base) D_exact C_exact_pair)
  have F_mathematical := ok_mathematical (P := Pr) (w := w) (base := base) (k := 39) D_mathematical (by decide) C_check_variables C_check_expression C_check_values C_rows_of C_exact
  have C_mathematical := Cl.mk D_mathematical F_mathematical
  have C_corners := Cl.mk D_corners (ok_corners (P := Pr) (w := w) (base := base) D_corners)
  have C_spans_of := Cl.mk D_spans_of (ok_spans_of (P := Pr) (w := w) (base := base) D_spans_of C_corners C_exact N_min N_max)
  have F_bounds := ok_bounds (P := Pr) (w := w) (base := base) (k := 39) D_bounds (by decide) C_check_variables C_check_expression C_rows_of C_spans_of
  have F_outcomes := ok_outcomes (P := Pr) (w := w) (base := base) (k := 39) D_outcomes (by decide) C_check_variables C_check_expression C_rows_of C_spans_of
  have C_law_bag := Cl.mk D_law_bag (ok__law_bag (P := Pr) (w := w) (base := base) D_law_bag N_abs)
  have C_law_draw := Cl.mk D_law_draw (ok__law_draw (P := Pr) (w := w) (base := base) D_law_draw N_len)
  have C_law_sorts := Cl.mk D_law_sorts (ok__law_sorts (P := Pr) (w := w) (base := base) D_law_sorts)
  have C_law_leaf := Cl.mk D_law_leaf (ok__law_leaf (P := Pr) (w := w) (base := base) D_law_leaf C_law_draw N_len)
  have F_law_trees := trees_ok (P := Pr) (w := w) (base := base) D_law_tree D_law_test C_law_draw C_law_leaf C_law_sorts N_max 16
  have C_law_tree := Cl.mk D_law_tree (F_law_trees.1.mono (show 2 + 2 * 16 ≤ 34 by decide))
  have C_law_test := Cl.mk D_law_test (F_law_trees.2.mono (show 2 + 2 * 16 ≤ 34 by decide))
  have C_law_holders := Cl.mk D_law_holders (ok__law_holders (P := Pr) (w := w) (base := base) D_law_holders C_law_draw C_law_sorts N_range)
  have C_law_parts := Cl.mk D_law_parts (ok__law_parts (P := Pr) (w := w) (base := base) D_law_parts N_isinstance N_tuple)
  have F_law_literals := rec_ok (c := 1) (sp := spLits) (fun vs H Q E h => no_lits h) (fun d F => step__law_literals (P := Pr) (w := w) (base := base) (k := 1 + d) D_law_literals (by omega) C_law_parts (Cl.mk D_law_literals F)) 50
  have C_law_literals := Cl.mk D_law_literals (F_law_literals.mono (show 1 + 50 ≤ 51 by decide))
  have C_law_count := Cl.mk D_law_count ((rec_ok (c := 1) (sp := fun d => PV (preCnt d)) (fun vs H Q E h => no_cnt h) (fun d F => step__law_count (P := Pr) (w := w) (base := base) (k := 1 + d) D_law_count (by omega) C_law_parts (Cl.mk D_law_count F) N_sum) 50).mono (show 1 + 50 ≤ 51 by decide))
  have C_law_drawn := Cl.mk D_law_drawn (ok__law_drawn (P := Pr) (w := w) (base := base) (k := 51) D_law_drawn (by decide) C_law_tree C_law_literals C_law_count N_range N_len)
  have C_law_power := Cl.mk D_law_power (ok__law_power (P := Pr) (w := w) (base := base) D_law_power N_range)
  have C_law_true := Cl.mk D_law_true ((rec_ok (c := 1) (sp := fun d => PV (preLE K d)) (fun vs H Q E h => no_le h) (fun d F => step__law_true (P := Pr) (w := w) (base := base) (k := 1 + d) D_law_true (by omega) C_law_parts C_law_power N_int (Cl.mk D_law_true F)) 30).mono (show 1 + 30 ≤ 52 by decide))
  have C_law_all_values := Cl.mk D_law_all_values (ok__law_all_values (P := Pr) (w := w) (base := base) D_law_all_values N_range N_dict)
  exact ok_law (P := Pr) (w := w) (base := base) (k := 52) D_law (by decide) C_law_bag C_law_draw C_law_holders C_law_drawn C_law_all_values C_law_true (Cl.mk D_law_literals (F_law_literals.mono (show 1 + 50 ≤ 52 by decide))) (Cl.mk D_bounds (F_bounds.mono (show 40 ≤ 52 by decide))) (Cl.mk D_outcomes (F_outcomes.mono (show 40 ≤ 52 by decide))) (Cl.mk D_mathematical (F_mathematical.mono (show 40 ≤ 52 by decide))) N_range N_min N_max N_len N_int
end Cf
open PySem PySem.W PyProof.Rows
set_option maxHeartbeats 0 in
theorem PySem.Challenge.cw_castforms_k64_whole_ranges_by_all_values_holds : PySem.Challenge.rw_castforms_k64_whole_ranges_by_all_values.Holds := by
  w_on; o_law; k_head; (case hw => w_witness2)
  k_fill
  refine Cf.walkG (l := PySem.Challenge.rw_castforms_k64_whole_ranges_by_all_values) (n := 63) (k := 53) (x := "script") (CX := fun _ => L2.CX0) (sp := fun w => Cf.spLaw _) rfl (by decide) rfl ⟨rfl, by decide, by decide⟩ (fun w h Y => PySem.W.kIn_of Y) ?F (fun _ _ a ns hl _ hS => ⟨a, ns, rfl, hS, hl, fun _ => rfl⟩) (fun _ _ _ _ _ h => h)
  case F =>
    intro w mg fa h KX G hmg
    refine' Cf.all_mk (w := w) KX G hmg ?a_is_name ?l_is_name ?c_is_name ?k_is_name ?a_check_variables ?l_check_variables ?c_check_variables ?k_check_variables ?a_fits ?l_fits ?c_fits ?k_fits ?a_has_items ?l_has_items ?c_has_items ?k_has_items ?a_has_form ?l_has_form ?c_has_form ?k_has_form ?a_parts ?l_parts ?c_parts ?k_parts ?a_check_node ?l_check_node ?c_check_node ?k_check_node ?a_check_expression ?l_check_expression ?c_check_expression ?k_check_expression ?a_add_rows ?l_add_rows ?c_add_rows ?k_add_rows ?a_rows_of ?l_rows_of ?c_rows_of ?k_rows_of ?a_check_values ?l_check_values ?c_check_values ?k_check_values ?a_exact_pair ?l_exact_pair ?c_exact_pair ?k_exact_pair ?a_exact ?l_exact ?c_exact ?k_exact ?a_mathematical ?l_mathematical ?c_mathematical ?k_mathematical ?a_corners ?l_corners ?c_corners ?k_corners ?a_spans_of ?l_spans_of ?c_spans_of ?k_spans_of ?a_bounds ?l_bounds ?c_bounds ?k_bounds ?a_outcomes ?l_outcomes ?c_outcomes ?k_outcomes ?a_law_bag ?l_law_bag ?c_law_bag ?k_law_bag ?a_law_draw ?l_law_draw ?c_law_draw ?k_law_draw ?a_law_sorts ?l_law_sorts ?c_law_sorts ?k_law_sorts ?a_law_leaf ?l_law_leaf ?c_law_leaf ?k_law_leaf ?a_law_tree ?l_law_tree ?c_law_tree ?k_law_tree ?a_law_test ?l_law_test ?c_law_test ?k_law_test ?a_law_holders ?l_law_holders ?c_law_holders ?k_law_holders ?a_law_parts ?l_law_parts ?c_law_parts ?k_law_parts ?a_law_literals ?l_law_literals ?c_law_literals ?k_law_literals ?a_law_count ?l_law_count ?c_law_count ?k_law_count ?a_law_drawn ?l_law_drawn ?c_law_drawn ?k_law_drawn ?a_law_power ?l_law_power ?c_law_power ?k_law_power ?a_law_true ?l_law_true ?c_law_true ?k_law_true ?a_law_all_values ?l_law_all_values ?c_law_all_values ?k_law_all_values ?a_law ?l_law ?c_law ?k_law ?taKINDS ?tlKINDS ?tvKINDS ?taRESERVED ?tlRESERVED ?tvRESERVED ?taSUFFIXES ?tlSUFFIXES ?tvSUFFIXES ?taCONDITIONS ?tlCONDITIONS ?tvCONDITIONS ?taPART_FORMS ?tlPART_FORMS ?tvPART_FORMS ?iaLONGEST_NAME ?wa ?wl ?wk ?wz ?w0 ?wl0 ?wv0 ?w1 ?wl1 ?wv1 ?w2 ?wl2 ?wv2 ?w3 ?wl3 ?wv3 ?w4 ?wl4 ?wv4 ?w5 ?wl5 ?wv5 ?w6 ?wl6 ?wv6 ?w7 ?wl7 ?wv7 ?w8 ?wl8 ?wv8 ?w9 ?wl9 ?wv9 ?w10 ?wl10 ?wv10 ?w11 ?wl11 ?wv11 ?w12 ?wl12 ?wv12 ?w13 ?wl13 ?wv13 ?w14 ?wl14 ?wv14 ?la ?z_len ?z_enumerate ?z_all ?z_zip ?z_isinstance ?z_int ?z_tuple ?z_abs ?z_range ?z_min ?z_max ?z_sum ?z_dict
    (case a_is_name => k_is)
    (case l_is_name => k_is)
    (case c_is_name => k_is)
    (case k_is_name => k_is)
    (case a_check_variables => k_is)
    (case l_check_variables => k_is)
    (case c_check_variables => k_is)
    (case k_check_variables => k_is)
    (case a_fits => k_is)
    (case l_fits => k_is)
    (case c_fits => k_is)
    (case k_fits => k_is)
    (case a_has_items => k_is)
    (case l_has_items => k_is)
    (case c_has_items => k_is)
    (case k_has_items => k_is)
    (case a_has_form => k_is)
    (case l_has_form => k_is)
    (case c_has_form => k_is)
    (case k_has_form => k_is)
    (case a_parts => k_is)
    (case l_parts => k_is)
    (case c_parts => k_is)
    (case k_parts => k_is)
    (case a_check_node => k_is)
    (case l_check_node => k_is)
    (case c_check_node => k_is)
    (case k_check_node => k_is)
    (case a_check_expression => k_is)
    (case l_check_expression => k_is)
    (case c_check_expression => k_is)
    (case k_check_expression => k_is)
    (case a_add_rows => k_is)
    (case l_add_rows => k_is)
    (case c_add_rows => k_is)
    (case k_add_rows => k_is)
    (case a_rows_of => k_is)
    (case l_rows_of => k_is)
    (case c_rows_of => k_is)
    (case k_rows_of => k_is)
    (case a_check_values => k_is)
    (case l_check_values => k_is)
    (case c_check_values => k_is)
    (case k_check_values => k_is)
    (case a_exact_pair => k_is)
    (case l_exact_pair => k_is)
    (case c_exact_pair => k_is)
    (case k_exact_pair => k_is)
    (case a_exact => k_is)
    (case l_exact => k_is)
    (case c_exact => k_is)
    (case k_exact => k_is)
    (case a_mathematical => k_is)
    (case l_mathematical => k_is)
    (case c_mathematical => k_is)
    (case k_mathematical => k_is)
    (case a_corners => k_is)
    (case l_corners => k_is)
    (case c_corners => k_is)
    (case k_corners => k_is)
    (case a_spans_of => k_is)
    (case l_spans_of => k_is)
    (case c_spans_of => k_is)
    (case k_spans_of => k_is)
    (case a_bounds => k_is)
    (case l_bounds => k_is)
    (case c_bounds => k_is)
    (case k_bounds => k_is)
    (case a_outcomes => k_is)
    (case l_outcomes => k_is)
    (case c_outcomes => k_is)
    (case k_outcomes => k_is)
    (case a_law_bag => k_is)
    (case l_law_bag => k_is)
    (case c_law_bag => k_is)
    (case k_law_bag => k_is)
    (case a_law_draw => k_is)
    (case l_law_draw => k_is)
    (case c_law_draw => k_is)
    (case k_law_draw => k_is)
    (case a_law_sorts => k_is)
    (case l_law_sorts => k_is)
    (case c_law_sorts => k_is)
    (case k_law_sorts => k_is)
    (case a_law_leaf => k_is)
    (case l_law_leaf => k_is)
    (case c_law_leaf => k_is)
    (case k_law_leaf => k_is)
    (case a_law_tree => k_is)
    (case l_law_tree => k_is)
    (case c_law_tree => k_is)
    (case k_law_tree => k_is)
    (case a_law_test => k_is)
    (case l_law_test => k_is)
    (case c_law_test => k_is)
    (case k_law_test => k_is)
    (case a_law_holders => k_is)
    (case l_law_holders => k_is)
    (case c_law_holders => k_is)
    (case k_law_holders => k_is)
    (case a_law_parts => k_is)
    (case l_law_parts => k_is)
    (case c_law_parts => k_is)
    (case k_law_parts => k_is)
    (case a_law_literals => k_is)
    (case l_law_literals => k_is)
    (case c_law_literals => k_is)
    (case k_law_literals => k_is)
    (case a_law_count => k_is)
    (case l_law_count => k_is)
    (case c_law_count => k_is)
    (case k_law_count => k_is)
    (case a_law_drawn => k_is)
    (case l_law_drawn => k_is)
    (case c_law_drawn => k_is)
    (case k_law_drawn => k_is)
    (case a_law_power => k_is)
    (case l_law_power => k_is)
    (case c_law_power => k_is)
    (case k_law_power => k_is)
    (case a_law_true => k_is)
    (case l_law_true => k_is)
    (case c_law_true => k_is)
    (case k_law_true => k_is)
    (case a_law_all_values => k_is)
    (case l_law_all_values => k_is)
    (case c_law_all_values => k_is)
    (case k_law_all_values => k_is)
    (case a_law => k_is)
    (case l_law => k_is)
    (case c_law => k_is)
    (case k_law => k_is)
    (case taKINDS => k_is)
    (case tlKINDS => k_is)
    (case tvKINDS => repeat (first | exact L2.Paired.nil | exact Paired.nil | refine Paired.cons ⟨_, rfl⟩ ?_))
    (case taRESERVED => k_is)
    (case tlRESERVED => k_is)
    (case tvRESERVED => repeat (first | exact L2.Paired.nil | exact Paired.nil | refine Paired.cons ⟨_, rfl⟩ ?_))
    (case taSUFFIXES => k_is)
    (case tlSUFFIXES => k_is)
    (case tvSUFFIXES => repeat (first | exact L2.Paired.nil | exact Paired.nil | refine Paired.cons ⟨_, rfl⟩ ?_))
    (case taCONDITIONS => k_is)
    (case tlCONDITIONS => k_is)
    (case tvCONDITIONS => repeat (first | exact L2.Paired.nil | exact Paired.nil | refine Paired.cons ⟨_, rfl⟩ ?_))
    (case taPART_FORMS => k_is)
    (case tlPART_FORMS => k_is)
    (case tvPART_FORMS => repeat (first | exact L2.Paired.nil | exact Paired.nil | refine Paired.cons ⟨_, rfl⟩ ?_))
    (case iaLONGEST_NAME => k_is)
    (case wa => k_is)
    (case wl => k_is)
    (case wk => exact ⟨⟨_, _, rfl, rfl⟩, ⟨⟨_, _, rfl, rfl⟩, ⟨⟨_, _, rfl, rfl⟩, ⟨⟨_, _, rfl, rfl⟩, ⟨⟨_, _, rfl, rfl⟩, ⟨⟨_, _, rfl, rfl⟩, ⟨⟨_, _, rfl, rfl⟩, ⟨⟨_, _, rfl, rfl⟩, ⟨⟨_, _, rfl, rfl⟩, ⟨⟨_, _, rfl, rfl⟩, ⟨⟨_, _, rfl, rfl⟩, ⟨⟨_, _, rfl, rfl⟩, ⟨⟨_, _, rfl, rfl⟩, ⟨⟨_, _, rfl, rfl⟩, ⟨⟨_, _, rfl, rfl⟩, trivial⟩⟩⟩⟩⟩⟩⟩⟩⟩⟩⟩⟩⟩⟩⟩)
    (case wz => first | rfl | decide +kernel)
    (case w0 => k_is)
    (case wl0 => k_is)
    (case wv0 => repeat (first | exact L2.Paired.nil | exact Paired.nil | refine Paired.cons ⟨_, rfl⟩ ?_))
    (case w1 => k_is)
    (case wl1 => k_is)
    (case wv1 => repeat (first | exact L2.Paired.nil | exact Paired.nil | refine Paired.cons ⟨_, rfl⟩ ?_))
    (case w2 => k_is)
    (case wl2 => k_is)
    (case wv2 => repeat (first | exact L2.Paired.nil | exact Paired.nil | refine Paired.cons ⟨_, rfl⟩ ?_))
    (case w3 => k_is)
    (case wl3 => k_is)
    (case wv3 => repeat (first | exact L2.Paired.nil | exact Paired.nil | refine Paired.cons ⟨_, rfl⟩ ?_))
    (case w4 => k_is)
    (case wl4 => k_is)
    (case wv4 => repeat (first | exact L2.Paired.nil | exact Paired.nil | refine Paired.cons ⟨_, rfl⟩ ?_))
    (case w5 => k_is)
    (case wl5 => k_is)
    (case wv5 => repeat (first | exact L2.Paired.nil | exact Paired.nil | refine Paired.cons ⟨_, rfl⟩ ?_))
    (case w6 => k_is)
    (case wl6 => k_is)
    (case wv6 => repeat (first | exact L2.Paired.nil | exact Paired.nil | refine Paired.cons ⟨_, rfl⟩ ?_))
    (case w7 => k_is)
    (case wl7 => k_is)
    (case wv7 => repeat (first | exact L2.Paired.nil | exact Paired.nil | refine Paired.cons ⟨_, rfl⟩ ?_))
    (case w8 => k_is)
    (case wl8 => k_is)
    (case wv8 => repeat (first | exact L2.Paired.nil | exact Paired.nil | refine Paired.cons ⟨_, rfl⟩ ?_))
    (case w9 => k_is)
    (case wl9 => k_is)
    (case wv9 => repeat (first | exact L2.Paired.nil | exact Paired.nil | refine Paired.cons ⟨_, rfl⟩ ?_))
    (case w10 => k_is)
    (case wl10 => k_is)
    (case wv10 => repeat (first | exact L2.Paired.nil | exact Paired.nil | refine Paired.cons ⟨_, rfl⟩ ?_))
    (case w11 => k_is)
    (case wl11 => k_is)
    (case wv11 => repeat (first | exact L2.Paired.nil | exact Paired.nil | refine Paired.cons ⟨_, rfl⟩ ?_))
    (case w12 => k_is)
    (case wl12 => k_is)
    (case wv12 => repeat (first | exact L2.Paired.nil | exact Paired.nil | refine Paired.cons ⟨_, rfl⟩ ?_))
    (case w13 => k_is)
    (case wl13 => k_is)
    (case wv13 => repeat (first | exact L2.Paired.nil | exact Paired.nil | refine Paired.cons ⟨_, rfl⟩ ?_))
    (case w14 => k_is)
    (case wl14 => k_is)
    (case wv14 => repeat (first | exact L2.Paired.nil | exact Paired.nil | refine Paired.cons ⟨_, rfl⟩ ?_))
    (case la => k_is)
    (case z_len => k_is)
    (case z_enumerate => k_is)
    (case z_all => k_is)
    (case z_zip => k_is)
    (case z_isinstance => k_is)
    (case z_int => k_is)
    (case z_tuple => k_is)
    (case z_abs => k_is)
    (case z_range => k_is)
    (case z_min => k_is)
    (case z_max => k_is)
    (case z_sum => k_is)
    (case z_dict => k_is)
