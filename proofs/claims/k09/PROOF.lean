import PyProof.Rows.All
import Wide.All
import OpenK.AllK
import Wide.FinOn
import HandS.ForMost
import HandS.Strs
import HandS.SetFor
import HandS.OwnEq
import HandS.SlotsOwn
import HandS.IsInst
import HandS.Wide
import HandS.Style
import HandS.Steps
import HandS.Walk
import HandS.TupSets
import HandS.SortRule
import PyProof.Rows.AssignMoreSeq
import HandS.NoneIn
import HandS.Deep
import PyProof.Rows.RegStrFacts
import HandS.DictTup
import HandS.Conv
import HandS.WideBits
import KE.OsArith
import PyProof.Rows.StrIntSpec
import KE.KxField
import HandS.FStr
import PyProof.Rows.RegReprOcc
import HandS.DictComp
import KE.GoesEnum
import KE.GoesMore
import HandS.Exc
import HandS.TryOnly
import HandS.ExcOwn
import HandS.WordsExc
import HandS.RaiseMore
import HandS.ExcIs
import HandS.Comp
import KE.KDictWalk
import KE.DataMinMax
import KE.DataFind
import HandS.TupLen
import HandS.SortKw
import HandS.Gcd
import KE.KMathGC
import KE.SortData
import HandS.Flow
import PySem.Challenge.RW_longlife_k09_middles_and_futures
set_option Elab.async false
set_option linter.all false
set_option maxRecDepth 100000
set_option maxHeartbeats 4000000
namespace Vx
open PySem PySem.Spec PyProof.Rows L2
/-! ### heaps that grow -/
theorem newS {H : Hp} {p : Addr} {o : HO} (n : H p = none) : Same H (upd H p o) := fun b x e => by
  rw [upd_ne (ne_of_none e n)]
  exact e
theorem mutS {H H' : Hp} {p : Addr} {o : HO} (e : Same H H') (n : H p = none) : Same H (upd H' p o) := fun b x hb => by
  rw [upd_ne (ne_of_none hb n)]
  exact e b x hb
theorem getS {H H' : Hp} {a : Addr} {o : HO} (e : Same H H') (h : H a = some o) : H' a = some o := e a o h
theorem tupS {K : PySem.W.Frag} {H H' : Hp} {a : Addr} {xs : List V} (e : Same H H') (h : SqT K H a xs) : SqT K H' a xs := by
  rcases h with (h | ⟨o, h⟩) | h
  · exact .inl (.inl (e _ _ h))
  · exact .inl (.inr ⟨o, e _ _ h⟩)
  · exact .inr h
theorem lst_of {K : PySem.W.Frag} {H : Hp} {a : Addr} {xs : List V} (h : H a = some (.lst xs)) : SqL K H a xs := .inl (.inl h)
theorem tup_of {K : PySem.W.Frag} {H : Hp} {a : Addr} {xs : List V} (h : H a = some (.tup xs)) : SqT K H a xs := .inl (.inl h)
theorem neS {H H' : Hp} {a p : Addr} {o : HO} (h : H a = some o) (e : Same H H') (n : H' p = none) : a ≠ p := ne_of_none (e a o h) n
theorem backS {H H' : Hp} {p : Addr} (e : Same H H') (n : H' p = none) : H p = none := Same.free e n
theorem gen_e {H H1 : Hp} {p : Addr} {o : HO} (q : upd H p o = H1) (n : H p = none) : Same H H1 ∧ H1 p = some o := by
  subst q
  exact ⟨newS n, upd_same⟩
/-! ### calls of built-ins, one way each -/
section
variable {X : Cx}
theorem call_intI : CallR X (.type "int") (fun xs H Q => ∃ i, xs = [.int i] ∧ Q (.int i) H) := fun pins s σ H xs us Q I r h => call_int1 pins s σ H xs us Q I r (.inl h)
theorem call_tupL : CallR X (.type "tuple") (fun xs H Q => ∃ p ys, xs = [.ref p] ∧ SqL X.K H p ys ∧ ∀ l, H l = none → Q (.ref l) (upd H l (.tup ys))) := fun pins s σ H xs us Q I r h => by
  obtain ⟨p, ys, e, hs, q⟩ := h
  exact call_tuple_of pins s σ H xs us Q I r ⟨p, ys, e, .inl ⟨hs, q⟩⟩
theorem call_lenL : CallR X (.builtin "len") (fun xs H Q => ∃ p ys, xs = [.ref p] ∧ SqL X.K H p ys ∧ Q (.int ys.length) H) := fun pins s σ H xs us Q I r h => by
  obtain ⟨p, ys, e, hs, q⟩ := h
  exact call_len_seq pins s σ H xs us Q I r ⟨p, ys, e, .inl hs, q⟩
theorem call_lenU : CallR X (.builtin "len") (fun xs H Q => ∃ p ys, xs = [.ref p] ∧ SqT X.K H p ys ∧ Q (.int ys.length) H) := fun pins s σ H xs us Q I r h => by
  obtain ⟨p, ys, e, hs, q⟩ := h
  exact call_len_seq pins s σ H xs us Q I r ⟨p, ys, e, .inr hs, q⟩
theorem call_listL : CallR X (.type "list") (fun xs H Q => ∃ p ys, xs = [.ref p] ∧ SqL X.K H p ys ∧ ∀ l, H l = none → Q (.ref l) (upd H l (.lst ys))) := fun pins s σ H xs us Q I r h => by
  obtain ⟨p, ys, e, hs, q⟩ := h
  exact call_list_of pins s σ H xs us Q I r ⟨p, ys, e, .inl hs, q⟩
/-- a class of the text is no built-in type -/
theorem op_isCT : OpR X (compareOp .Is) (fun x y H Q => ∃ a n, x = V.ref a ∧ y = V.ty n ∧ Q (.bl false) H) := by
  intro pins s σ H x y v u Q I rx ry h
  obtain ⟨a, n, rfl, rfl, q⟩ := h
  cases (show v = Value.ref a from rx)
  cases (show u = Value.type n from ry)
  exact wpAny_is_other rfl (fun z => by cases z) ⟨.bl false, H, I, rfl, q⟩
theorem looks_ty {M : Model} {s : Shared} {u : Value} {T : String} (h : s.TypeIs u T) : PySem.W.Looks M s.heap (typeOf u) (.type T) := by
  unfold Shared.TypeIs at h
  split at h
  · obtain ⟨o, ho, hc⟩ := h
    exact fun A Q E s' k q => wpAny_typeOf_ref (k _ _ ho) (by rw [hc]; exact q)
  · exact PySem.W.Looks.of_pure h
/-- x == y by the text's own __eq__; y an instance of that class, or of a built-in type -/
def rEqOwn (K : PySem.W.Frag) (C : Addr) (sp : Sp) (E : XK) : R2 := fun x y H Q => ∃ a dx fs, x = .ref a ∧ H a = some (.ins C dx fs) ∧
  ((∃ b dy gs, y = .ref b ∧ H b = some (.ins C dy gs)) ∨ ∃ T, TyB K H y T ∧ PySem.W.notFirst K C (.type T) = true) ∧ sp [x, y] H Q E
theorem op_eqOwn {CX : CXT} {C g : Addr} {n : Nat} {sp : Sp} {E : XK} (hs : PySem.W.findIn X.K (.ref C) "__eq__" = some (some (.ref g))) (hf : PySem.W.isFn X.K (.ref g) = true)
    (F : FnR X.prog X.w X.K X.mg X.base CX n g sp) (hr : Room n X.A) (hx : Passes CX X E) : OpR X (compareOp .Eq) (rEqOwn X.K C sp E) := by
  intro pins s σ H x y v u Q I rx ry h
  obtain ⟨a, dx, fs, rfl, ha, hy, q⟩ := h
  cases (show v = Value.ref a from rx)
  obtain ⟨mA, O, _⟩ := ins_get I.hok ha
  obtain ⟨od, J, _⟩ := O.look
  obtain ⟨m, hF⟩ := I.fr
  show wpAny (model X.prog X.w) X.A (richCompare .Eq (.ref a) u) (EP X pins σ Q) X.xe s
  have fin : wpAny (model X.prog X.w) X.A (call (.ref g) [.ref a, u]) (PySem.W.CmpBack (EP X pins σ Q)) X.xe s := by
    refine wpAny_mono (wpAny_call (run_fnR (us := [.ref a, u]) (vs := [.ref a, y]) F hr hx I (.cons rfl (.cons ry .nil)) q)) (fun w s' z => ?_) fun _ _ x => x
    obtain ⟨z', H', I', rz, qz⟩ := z
    exact SlX.cmpback rz ⟨z', H', I', rz, qz⟩
  rcases hy with ⟨b, dy, gs, rfl, hb⟩ | ⟨T, ty, nf⟩
  · cases (show u = Value.ref b from ry)
    obtain ⟨mB, O2, _⟩ := ins_get I.hok hb
    obtain ⟨od2, J2, _⟩ := O2.look
    exact PySem.W.cmp_K (op := .Eq) (tb := .ref C) hr.units0 hF I.ok.mod.kin J J2.type (by simp [PySem.W.notFirst]) hs hf fin
  · exact PySem.W.cmp_K (op := .Eq) (tb := .type T) hr.units0 hF I.ok.mod.kin J (looks_ty (ty.is I ry)) nf hs hf fin
theorem nf_str {K : PySem.W.Frag} {C : Addr} : PySem.W.notFirst K C (.type "str") = true := by rfl
theorem nf_tup {K : PySem.W.Frag} {C : Addr} : PySem.W.notFirst K C (.type "tuple") = true := by rfl
end
end Vx
namespace Vx
open PySem PySem.Spec PyProof.Rows L2
/-! ### set(xs) of a list of ints -/
abbrev bareSet (w : World) : Obj := { cls := .type "set", dict := none, data := .set #[] 0 (.fresh 0 0 (!w.params.followText "set-order")) }
section
variable {P : Program} {w : World} {A : Around} {E : Value → Shared → Prop} {s : Shared}
theorem set_of_list {l : Addr} {its : Array Value} (ns : List Int) {Q : Value → Shared → Prop} (calm : A.handled = none) (hl : s.heap.IsList l its) (hi : IntsAre its.toList ns) (room : ns.length + 1 < scanBound)
    (k : ∀ (g : Heap) (t c : Nat), SetR w g s.heap.objs.size (fun j => decide (j ∈ ns)) c → c ≤ ns.length → (∀ b o, s.heap.get? b = some o → g.get? b = some o) → Q (.ref s.heap.objs.size) { s with heap := g, toks := t }) :
    wpAny (model P w) A (call (.type "set") [.ref l]) Q E s := by
  have len : its.size = ns.length := by
    have z := IntsAre.length hi
    rwa [Array.length_toList] at z
  obtain ⟨c0, tl, hmro⟩ := F.called_set.mro
  have hmade := F.called_set.made
  have hsub := F.called_set.sub
  refine wpAny_call (codeAny_of_tree ?_)
  show wpAny _ _ (callAny (.type "set") _) _ _ _
  refine wpAny_pure ⟨Code.quiet_builtin _ (by decide +kernel), codeAny_builtin F.entry_type_call ?_⟩
  rw [Around.under_plain (weight_type_call_type "set" [.ref l] []) rfl]
  have n1 := F.called_set.notType
  have n2 := F.called_set.canCreate
  have n3 := F.typeCall_set_1 (.ref l)
  repeat (any_goals (first | assumption | wp_step))
  refine codeAny_mono (code_set_led1 (.ref l) (E := E) (Q₁ := fun ob s1 => ob = .ref s.heap.objs.size ∧ s1 = { s with heap := s.heap.push (bareSet w) }) ⟨rfl, rfl⟩) fun r s1 hr => ?_
  rcases r with e | fl
  · exact hr
  cases fl with
  | ret ob =>
    obtain ⟨rfl, rfl⟩ := hr
    have at0 : (s.heap.push (bareSet w)).get? s.heap.objs.size = some (bareSet w) := Heap.get?_push_size _ rfl
    have ty0 : Shared.TypeIs { s with heap := s.heap.push (bareSet w) } (.ref s.heap.objs.size) "set" := ⟨_, at0, rfl⟩
    have i1 := F.called_set.init.lookup
    have i2 := F.called_set.init.bind (.ref s.heap.objs.size)
    repeat (any_goals (first | assumption | wp_step))
    refine codeAny_mono (codeAny_call_builtin (R := wants (fun v s2 => v = .none ∧ ∃ g t c, s2 = { s with heap := g, toks := t } ∧ SetR w g s.heap.objs.size (fun j => decide (j ∈ ns)) c ∧ c ≤ ns.length ∧
        (∀ b o, s.heap.get? b = some o → g.get? b = some o)) E) F.called_set.init.plain F.entry_set_init (check_set_init_1 ty0 ?_)) fun r2 s2 hr2 => ?_
    · obtain ⟨⟨oc, od, ob, osl⟩, hol, hcl, nl, hdl⟩ := hl
      simp only at hcl hdl
      subst hcl hdl
      have at1 : (s.heap.push (bareSet w)).get? l = some { cls := .type "list", dict := od, data := .seq its nl, slots := osl } := Heap.get?_push_of_some _ hol
      have q1 := F.sub_list_set
      have q2 := F.sub_list_frozenset
      have q3 : (Value.type "list" == Value.type "dict") = false := by decide
      have isl : (s.heap.push (bareSet w)).IsList l its := ⟨_, at1, rfl, nl, rfl⟩
      unfold Builtin.«set.__init__» noKeywords Builtin.Frozenset.updateFrom
      generalize hPI : pyIter = PI
      wp_walk
      subst hPI
      refine wpAny_pyIter_list isl ?_
      refine wpAny_bind (wpAny_runValue ?_)
      have lS : l < s.heap.objs.size := Heap.lt_size hol
      have calm3 : A.in1.in1.in1.handled = none := by simp [calm]
      have neI : l ≠ (s.heap.push (bareSet w)).objs.size := by
        rw [Heap.size_push]
        exact Nat.ne_of_lt (Nat.lt_succ_of_lt lS)
      have noS : s.heap.objs.size ∉ [(s.heap.push (bareSet w)).objs.size, l] := by
        rw [Heap.size_push]
        simp only [List.mem_cons, List.mem_singleton, List.not_mem_nil, or_false, not_or]
        exact ⟨Nat.ne_of_lt (Nat.lt_succ_self _), Nat.ne_of_gt lS⟩
      have item : ∀ (i : Nat) (v : Value), its[i]? = some v → ∃ m t, ns[i]? = some m ∧ v = .int m t := fun i v hv => by
        have li : i < ns.length := by rw [← len]; exact (Array.getElem?_eq_some_iff.mp hv).1
        obtain ⟨t, e⟩ := PyProof.Rows.IntsAre.int_at hi i v (by rw [Array.getElem?_toList]; exact hv)
        refine ⟨ns[i], t, List.getElem?_eq_getElem li, ?_⟩
        rw [e, List.getD_eq_getElem?_getD, List.getElem?_eq_getElem li]
        rfl
      refine set_update_ints ((Walks.list calm3 _ l neI its).toS) s.heap.objs.size noS ns len room item (its.size - 0) 0 _ (by omega) (Nat.zero_le _) ⟨⟨_, Heap.get?_push_size _ rfl, rfl, rfl⟩, (isl.push _)⟩ ?s0 ?fin
      case s0 => exact ⟨0, Nat.le_refl 0, setR_new_at (Heap.get?_push_of_some _ at0)⟩
      case fin =>
        intro s3 c3 mv hc3 hS3
        obtain ⟨g3, ge, dr, t3, os3⟩ := s3
        cases (show ge = s.gens from mv.gens)
        cases (show dr = s.drawn from mv.drawn)
        cases (show os3 = s.os from mv.os)
        show wpAny _ _ _ _ _ _
        refine wpAny_pure ?_
        show wpAny _ _ (ret Value.none) _ _ _
        rw [len] at hc3
        refine wpAny_pure ⟨rfl, g3, t3, c3, rfl, hS3, hc3, fun b o e => ?_⟩
        have b0 : b < s.heap.objs.size := Heap.lt_size e
        have b2 : b ≠ (s.heap.push (bareSet w)).objs.size := by
          rw [Heap.size_push]
          exact Nat.ne_of_lt (Nat.lt_succ_of_lt b0)
        exact mv.heap b o (by simp only [List.mem_cons, List.mem_singleton, List.not_mem_nil, or_false, not_or]; exact ⟨Nat.ne_of_lt b0, b2⟩) (Heap.get?_push_of_some _ (Heap.get?_push_of_some _ e))
    · rcases r2 with e | fl2
      · exact hr2
      cases fl2 with
      | ret v =>
        obtain ⟨rfl, g, t, c, rfl, hS, hc, hk⟩ := hr2
        repeat (any_goals (first | assumption | wp_step))
        exact k _ _ _ hS hc hk
      | _ => exact hr2.elim
  | _ => exact hr.elim
end
section
variable {X : Cx}
theorem cr_setL (hc : X.calm = true) : CallR X (.type "set") (fun vs H Q => ∃ (l : Addr) (ns : List Int), vs = [V.ref l] ∧ SqL X.K H l (ns.map V.int) ∧ ns.length + 1 < scanBound ∧
    ∀ p c, H p = none → c ≤ ns.length → Q (.ref p) (upd H p (SetO X.w p (fun j => decide (j ∈ ns)) c))) := by
  intro pins s σ H xs us Q I r h
  obtain ⟨l, ns, rfl, hl, room, q⟩ := h
  rw [Vals.ref1 r]
  obtain ⟨its, rv, pl, hz⟩ := I.list hl
  refine set_of_list ns (I.ok.hd hc) pl.isList (by simpa using ints_of_vals rv) room fun g t c R hc' k => ?_
  have hn : H s.heap.objs.size = none := I.hok.fresh (Nat.le_refl _)
  exact ⟨.ref _, _, I.laid (a := s.heap.objs.size) (t' := t) k (Nat.le_refl _) (setO_new R), rfl, q _ c hn hc'⟩
end
end Vx
namespace Vx
open PySem PySem.Spec PyProof.Rows L2
/-! ### ascending lists -/
theorem asc_eq : ∀ {l m : List Int}, l.Pairwise (· < ·) → m.Pairwise (· < ·) → (∀ k, k ∈ l ↔ k ∈ m) → l = m
  | [], [], _, _, _ => rfl
  | [], y :: m, _, _, h => absurd ((h y).mpr List.mem_cons_self) (by simp)
  | x :: l, [], _, _, h => absurd ((h x).mp List.mem_cons_self) (by simp)
  | x :: l, y :: m, hl, hm, h => by
    obtain ⟨h1, h2⟩ := List.pairwise_cons.mp hl
    obtain ⟨h3, h4⟩ := List.pairwise_cons.mp hm
    have e : x = y := by
      rcases List.mem_cons.mp ((h x).mp List.mem_cons_self) with e | e
      · exact e
      · rcases List.mem_cons.mp ((h y).mpr List.mem_cons_self) with e2 | e2
        · exact e2.symm
        · have a := h3 _ e
          have b := h1 _ e2
          omega
    subst e
    rw [asc_eq h2 h4 fun k => ?_]
    have q := h k
    constructor
    · intro hk
      rcases List.mem_cons.mp (q.mp (List.mem_cons_of_mem _ hk)) with e | e
      · exact absurd (h1 _ hk) (by omega)
      · exact e
    · intro hk
      rcases List.mem_cons.mp (q.mpr (List.mem_cons_of_mem _ hk)) with e | e
      · exact absurd (h3 _ hk) (by omega)
      · exact e
/-! ### data -/
theorem eqvAll_ints : ∀ (l m : List Int), PyData.eqvAll (l.map PyData.int) (m.map PyData.int) = decide (l = m)
  | [], [] => by simp [PyData.eqvAll]
  | [], y :: m => by simp [PyData.eqvAll]
  | x :: l, [] => by simp [PyData.eqvAll]
  | x :: l, y :: m => by
    show (PyData.eqv (.int x) (.int y) && PyData.eqvAll (l.map PyData.int) (m.map PyData.int)) = _
    rw [eqvAll_ints l m]
    show ((x == y) && decide (l = m)) = _
    by_cases e : x = y <;> by_cases e2 : l = m <;> simp [e, e2]
theorem eqv_tupI (l m : List Int) : PyData.eqv (.tuple (l.map PyData.int)) (.tuple (m.map PyData.int)) = decide (l = m) := eqvAll_ints l m
theorem eqv_lstI (l m : List Int) : PyData.eqv (.list (l.map PyData.int)) (.list (m.map PyData.int)) = decide (l = m) := eqvAll_ints l m
theorem dpAll_ints {K : PySem.W.Frag} {H : Hp} : ∀ l : List Int, DpAll K H (l.map V.int) (l.map PyData.int)
  | [] => .nil
  | x :: l => .cons (.int x) (dpAll_ints l)
theorem dp_tupI {K : PySem.W.Frag} {H : Hp} {a : Addr} {l : List Int} (h : SqT K H a (l.map V.int)) : Dp K H (.ref a) (.tuple (l.map PyData.int)) := .tup h (dpAll_ints l)
theorem dp_lstI {K : PySem.W.Frag} {H : Hp} {a : Addr} {l : List Int} (h : SqL K H a (l.map V.int)) : Dp K H (.ref a) (.list (l.map PyData.int)) := .lst h (dpAll_ints l)
theorem inV_ints (x : Int) : ∀ l : List Int, inV (.int x) (l.map V.int) = decide (x ∈ l)
  | [] => by simp [inV]
  | y :: l => by
    have ih := inV_ints x l
    unfold inV at ih ⊢
    rw [List.map_cons, List.any_cons, ih]
    show ((y == x) || decide (x ∈ l)) = _
    by_cases e : y = x
    · simp [e]
    · have e' : ¬ x = y := fun z => e z.symm
      simp [e, e']
theorem flat_ints (l : List Int) : (l.map V.int).all flatV = true := by
  rw [List.all_map]
  exact List.all_eq_true.mpr fun _ _ => rfl
end Vx
namespace Vx
open PySem PySem.Spec PyProof.Rows L2
theorem canAll_ints : ∀ l : List Int, PyData.canLayAll0 (l.map PyData.int) = true
  | [] => by simp [PyData.canLayAll0]
  | x :: l => by
    rw [List.map_cons]
    simp [PyData.canLayAll0, PyData.canLay0, canAll_ints l]
theorem depAll_ints : ∀ l : List Int, PyData.depthAll (l.map PyData.int) = 0
  | [] => by simp [PyData.depthAll]
  | x :: l => by
    rw [List.map_cons]
    simp [PyData.depthAll, PyData.depth, depAll_ints l]
theorem shaped_tupI (l : List Int) : SeqAt.shaped (.tuple (l.map PyData.int)) = true := by
  unfold SeqAt.shaped
  simp [PyData.canLay0, PyData.depth, canAll_ints, depAll_ints]
theorem shaped_lstI (l : List Int) : SeqAt.shaped (.list (l.map PyData.int)) = true := by
  unfold SeqAt.shaped
  simp [PyData.canLay0, PyData.depth, canAll_ints, depAll_ints]
theorem tyesT {σ : L2.St} {H : Hp} {A B : Hp → Prop} (h : A H) : tYes σ H (fun b H3 => if b = true then A H3 else B H3) := h
theorem item_ints {xs : List Int} {i : Nat} {x : V} (h : (xs.map V.int)[i]? = some x) : ∃ z, x = .int z ∧ xs[i]? = some z ∧ z ∈ xs := by
  rw [List.getElem?_map] at h
  cases e : xs[i]? with
  | none => rw [e] at h; cases h
  | some z =>
    rw [e] at h
    exact ⟨z, (Option.some.inj h).symm, rfl, List.mem_of_getElem? e⟩
theorem at_ints {xs : List Int} {k : Int} (h0 : 0 ≤ k) (h1 : k < (xs.length : Int)) : ∃ z, z ∈ xs ∧ atI (xs.map V.int) k = some (.int z) := by
  have hj : k.toNat < xs.length := by omega
  refine ⟨xs[k.toNat], List.getElem_mem hj, ?_⟩
  refine at_of (j := k.toNat) (by omega) ?_
  rw [List.getElem?_map, List.getElem?_eq_getElem hj]
  rfl
theorem mem_ins {ys : List Int} {j : Nat} {y k : Int} (hy : y ∈ ys) : k ∈ ys.take j ++ [y] ++ ys.drop j ↔ k ∈ ys := by
  have e : k ∈ ys ↔ k ∈ ys.take j ∨ k ∈ ys.drop j := by rw [← List.mem_append, List.take_append_drop]
  rw [List.mem_append, List.mem_append, List.mem_singleton, e]
  constructor
  · rintro ((h | h) | h)
    · exact .inl h
    · subst h
      exact e.mp hy
    · exact .inr h
  · rintro (h | h)
    · exact .inl (.inl h)
    · exact .inr h
theorem madeS {C : Addr} {H : Hp} {x dx : Addr} (nx : H x = none) (nd : H dx = none) : Same H (upd (upd H dx (.own x)) x (.ins C dx [])) := fun b o e => by
  rw [upd_ne (ne_of_none e nx), upd_ne (ne_of_none e nd)]
  exact e
theorem pe_gcx {X : Cx} {x : Str} {pos : Pos} {v : V} (hg : Gl X x) (h : ∃ u, X.mg x = some u ∧ RelV v u) (hd : (x == ("__debug__" : Str)) = false := by decide +kernel) : PE X (.Name x pos) (tC v) := by
  obtain ⟨u, h, r⟩ := h
  exact pe_glob hg h r hd
theorem call_intB {X : Cx} : CallR X (.type "int") (fun xs H Q => ∃ k, xs = [.bl k] ∧ Q (.int (if k = true then 1 else 0)) H) := fun pins s σ H xs us Q I r h => call_int1 pins s σ H xs us Q I r (.inr h)
theorem cut_lo_len (z : Str) {k : Int} (h : 0 ≤ k) : (cutS z none (some k)).length ≤ k.toNat := by
  show (List.toArray _).size ≤ _
  rw [List.size_toArray, List.length_take]
  show min (HT.sIx z.length z.length (some k) - 0) _ ≤ _
  have e : HT.sIx z.length z.length (some k) = min k.toNat z.length := by
    show (if k < 0 then (k + (z.length : Int)).toNat else min k.toNat z.length) = _
    rw [if_neg (by omega)]
  omega
theorem cut_hi_len (z : Str) {k : Int} (h : 0 ≤ k) : (cutS z (some k) none).length ≤ z.length - k.toNat := by
  show (List.toArray _).size ≤ _
  have e : HT.sIx z.length 0 (some k) = min k.toNat z.length := by
    show (if k < 0 then (k + (z.length : Int)).toNat else min k.toNat z.length) = _
    rw [if_neg (by omega)]
  rw [List.size_toArray, List.length_take, List.length_drop, e]
  show min (z.length - min k.toNat z.length) (z.cps.toList.length - min k.toNat z.length) ≤ _
  have : z.cps.toList.length = z.length := Array.length_toList
  omega
end Vx
namespace Vx
open PySem PySem.Spec PyProof.Rows L2
/-! ### pairs and lists of them -/
abbrev Pr := Int × Int
def pr (l : List Int) : Pr := (l.getD 0 0, l.getD 1 0)
def Cells (H : Hp) (l : Addr) (ps : List Pr) : Prop :=
  ∃ ts : List (Addr × Pr), H l = some (.lst (ts.map fun t => V.ref t.1)) ∧ (∀ t ∈ ts, H t.1 = some (.tup [.int t.2.1, .int t.2.2])) ∧ ts.map (·.2) = ps
theorem Cells.up {H H' : Hp} {l : Addr} {ps : List Pr} (e : Same H H') (h : Cells H l ps) : Cells H' l ps := by
  obtain ⟨ts, h1, h2, h3⟩ := h
  exact ⟨ts, e _ _ h1, fun t m => e _ _ (h2 t m), h3⟩
def SetP (P : Program) (w : World) (H : Hp) (a : Addr) (ps : List Pr) : Prop :=
  ∃ L : List (Addr × List Int), H a = some (SetTO P w a L) ∧ (∀ q ∈ L, q.2.length = 2 ∧ H q.1 = some (.tup (q.2.map V.int))) ∧ ∀ x, x ∈ L.map (fun q => pr q.2) ↔ x ∈ ps
abbrev ltP (p q : Pr) : Prop := SrtO.lexB p q = true
theorem pr_inj : ∀ {l m : List Int}, l.length = 2 → m.length = 2 → pr l = pr m → l = m
  | [a, b], [c, d], _, _, h => by
    have h1 : a = c := congrArg Prod.fst h
    have h2 : b = d := congrArg Prod.snd h
    rw [h1, h2]
theorem len2 : ∀ {l : List Int}, l.length = 2 → l = [(pr l).1, (pr l).2]
  | [a, b], _ => rfl
section
variable {P : Program} {w : World} {A : Around} {E : Value → Shared → Prop} {s : Shared}
def adr : Value → Addr
  | .ref a => a
  | _ => 0
/-- the set's members, sorted -/
theorem sorted_pairs {a : Addr} {L : List (Addr × List Int)} {es : Array (Int × Value)} {ep : Nat} {t : SetTable} {Q : Value → Shared → Prop} (R : SetTR P w s.heap a L es ep t) (hh : A.handled = none) (h2 : ∀ q ∈ L, q.2.length = 2)
    (hQ : ∀ s' p (ts : List (Addr × Pr)) (c : Nat), (∀ b o, s.heap.get? b = some o → s'.heap.get? b = some o) → s'.gens = s.gens → s'.os = s.os → s.heap.objs.size ≤ p →
      s'.heap.get? p = some (seqObj "list" (ts.map fun q => Value.ref q.1).toArray c) → (∀ q ∈ ts, ∃ r ∈ L, r.1 = q.1 ∧ pr r.2 = q.2) → (∀ x, x ∈ ts.map (·.2) ↔ x ∈ L.map fun q => pr q.2) → (ts.map (·.2)).Pairwise ltP → ts.length = L.length → Q (.ref p) s') :
    wpAny (model P w) A (call (.builtin "sorted") [.ref a]) Q E s := by
  have few := R.few
  obtain ⟨o, go, xo, dat⟩ := R.ob
  refine Calls.call_function_entry kind_sorted plain_sorted entry_sorted (args_sorted1 _) ?_
  unfold Builtin.«sorted»
  refine wpAny_bind (m := checkCount "sorted" 1 1 _) (wpAny_pure ?_)
  refine wpAny_bind (collect_set (A := A.in1) hh ⟨o, go, xo.1, dat⟩ R.fits (by rw [R.size]; unfold scanBound; omega) R.tab.ris R.led fun s1 vs keep sz gg oo pm => ?_)
  have em : es.toList.map (·.2) = L.map fun q => Value.ref q.1 := by
    rw [R.rows]
    show (L.map fun q => (thash P w q.2, Value.ref q.1)).map (·.2) = _
    rw [List.map_map] <;> rfl
  rw [em] at pm
  have vl : vs.length = L.length := by rw [pm.length_eq, List.length_map]
  have lim : vs.length ≤ sizeLine := by
    rw [sizeLine_eq]
    omega
  refine wpAny_bind (wpAny_newList ?_ lim)
  have gl : (s1.heap.push (seqObj "list" vs.toArray 0)).get? s1.heap.objs.size = some (seqObj "list" vs.toArray 0) := Heap.get?_push_size _ rfl
  generalize hh1 : s1.heap.push (seqObj "list" vs.toArray 0) = h1 at gl
  have keep1 : ∀ b u, s1.heap.get? b = some u → h1.get? b = some u := fun b u e => by
    rw [← hh1]
    exact Heap.get?_push_of_some _ e
  have tin : ∀ q ∈ L, TS.TupInts h1 (.ref q.1) q.2 := fun q m => tupInts_of (P := P) (w := w) (isT_keep (R.tup q m) fun b u e => keep1 b u (keep b u e))
  have mem : ∀ v ∈ vs, ∃ q ∈ L, v = Value.ref q.1 := fun v m => by
    obtain ⟨q, m1, e⟩ := List.mem_map.mp (pm.mem_iff.mp m)
    exact ⟨q, m1, e.symm⟩
  have key : ∀ q ∈ L, pr (TS.intsOf h1 (.ref q.1)) = pr q.2 := fun q m => by rw [(tin q m).ints]
  have isP : ∀ v ∈ vs, Srt.IsPair h1 v (pr (TS.intsOf h1 v)).1 (pr (TS.intsOf h1 v)).2 := fun v m => by
    obtain ⟨q, m1, rfl⟩ := mem v m
    rw [key q m1]
    have i := tin q m1
    have l2 := len2 (h2 q m1)
    rw [l2] at i
    obtain ⟨b, items, eb, ⟨o1, go1, co1, n1, do1⟩, ia⟩ := i
    cases eb
    obtain ⟨xs⟩ := items
    cases ia with
    | cons _ t1 ia =>
      cases ia with
      | cons _ t2 ia =>
        cases ia
        exact ⟨_, o1, t1, t2, n1, rfl, go1, co1, do1⟩
  refine wpAny_bind (wpAny_holding (wpAny_call_entry (s := { s1 with heap := h1 }) slot_list_sort ⟨_, gl, rfl⟩ entry_list_sort (SrtO.list_sort_ord (s := { s1 with heap := h1 }) (SrtO.swo_lex fun v => pr (TS.intsOf h1 v)) gl lim (fun two => SrtO.pairs_sortableO (by omega) isP fun o1 e => ?_) fun out srt stb => ⟨_, rfl, ?_⟩) (args_list_sort _)))
  · have e' : some o1 = some (seqObj "list" vs.toArray 0) := e.symm.trans gl
    cases e'
    intro c
    exact absurd (Value.type.inj c) (by decide)
  · obtain ⟨c, gc⟩ := sortedHeap_at (vs := vs) (out := out.toArray) gl
    have omem : ∀ v ∈ out, ∃ q ∈ L, v = Value.ref q.1 := fun v m => mem v (stb.perm.mem_iff.mp m)
    refine wpAny_pure ⟨_, rfl, hQ _ s1.heap.objs.size (out.map fun v => (adr v, pr (TS.intsOf h1 v))) c (fun b u e => ?_) gg oo sz ?_ ?_ ?_ ?_ ?_⟩
    · have g1 := keep b u e
      have lt1 := Heap.lt_size g1
      show (sortedHeap h1 s1.heap.objs.size vs out.toArray).get? b = some u
      rw [sortedHeap_old (Nat.ne_of_lt lt1) (Heap.lt_size (keep1 b u g1))]
      exact keep1 b u g1
    · have eo : (out.map fun v => (adr v, pr (TS.intsOf h1 v))).map (fun q => Value.ref q.1) = out := by
        rw [List.map_map]
        refine (List.map_congr_left fun v m => ?_).trans (List.map_id _)
        obtain ⟨q, _, rfl⟩ := omem v m
        rfl
      rw [eo]
      exact gc
    · intro q m
      obtain ⟨v, m1, rfl⟩ := List.mem_map.mp m
      obtain ⟨r, mr, rfl⟩ := omem v m1
      exact ⟨r, mr, rfl, (key r mr).symm⟩
    · intro x
      rw [List.map_map]
      constructor
      · intro m
        obtain ⟨v, m1, rfl⟩ := List.mem_map.mp m
        obtain ⟨r, mr, rfl⟩ := omem v m1
        exact List.mem_map.mpr ⟨r, mr, (key r mr).symm⟩
      · intro m
        obtain ⟨r, mr, rfl⟩ := List.mem_map.mp m
        exact List.mem_map.mpr ⟨.ref r.1, stb.perm.mem_iff.mpr (pm.mem_iff.mpr (List.mem_map.mpr ⟨r, mr, rfl⟩)), key r mr⟩
    · rw [List.map_map]
      have nd : ((L.map fun q => Value.ref q.1).map fun v => pr (TS.intsOf h1 v)).Nodup := by
        rw [List.map_map]
        refine List.pairwise_map.mpr ((List.pairwise_map.mp R.nd).imp_of_mem fun {q r} mq mr ne e => ne ?_)
        refine pr_inj (h2 q mq) (h2 r mr) ?_
        rw [← key q mq, ← key r mr]
        exact e
      have nd2 : (out.map fun v => pr (TS.intsOf h1 v)).Nodup := ((stb.perm.trans pm).map _).nodup_iff.mpr nd
      refine List.pairwise_map.mpr ((srt.and (List.pairwise_map.mp nd2)).imp fun {u v} h => ?_)
      have a1 := SrtO.lexB_no.mp h.1
      refine SrtO.lexB_iff.mpr ?_
      have a2 : ¬ ((pr (TS.intsOf h1 u)).1 = (pr (TS.intsOf h1 v)).1 ∧ (pr (TS.intsOf h1 u)).2 = (pr (TS.intsOf h1 v)).2) := fun e => h.2 (Prod.ext e.1 e.2)
      show (pr (TS.intsOf h1 u)).1 < (pr (TS.intsOf h1 v)).1 ∨ (pr (TS.intsOf h1 u)).1 = (pr (TS.intsOf h1 v)).1 ∧ (pr (TS.intsOf h1 u)).2 < (pr (TS.intsOf h1 v)).2
      omega
    · rw [List.length_map, stb.perm.length_eq, vl]
end
section
variable {X : Cx}
theorem cr_setP (hc : X.calm = true) (hu : X.A.units + 64 < cLine) : CallR X (.type "set") (fun xs H Q => ∃ l ps, xs = [V.ref l] ∧ Cells H l ps ∧ ps.length < 64 ∧
    ∀ a H', Same H H' → H a = none → SetP X.prog X.w H' a ps → Q (.ref a) H') := by
  intro pins s σ H xs us Q I r h
  obtain ⟨l, ps, rfl, ⟨ts, hl, ht, rfl⟩, few, q⟩ := h
  rw [List.length_map] at few
  refine cr_setOfT hc hu pins s σ H [V.ref l] us Q I r ⟨l, ts.map fun t => (t.1, [t.2.1, t.2.2]), rfl, ?_, ?_, by rw [List.length_map]; exact few, fun a L n sub all => ?_⟩
  · rw [List.map_map]
    exact lst_of hl
  · intro p m
    obtain ⟨t, m1, rfl⟩ := List.mem_map.mp m
    exact tup_of (ht t m1)
  · refine q a _ (newS n) n ⟨L, upd_same, fun p m => ?_, fun x => ⟨fun m => ?_, fun m => ?_⟩⟩
    · obtain ⟨t, m1, rfl⟩ := List.mem_map.mp (sub p m)
      exact ⟨rfl, newS n _ _ (ht t m1)⟩
    · obtain ⟨p, m1, rfl⟩ := List.mem_map.mp m
      obtain ⟨t, m2, rfl⟩ := List.mem_map.mp (sub p m1)
      exact List.mem_map.mpr ⟨t, m2, rfl⟩
    · obtain ⟨t, m1, rfl⟩ := List.mem_map.mp m
      obtain ⟨p, m2, e⟩ := List.mem_map.mp (all _ (List.mem_map.mpr ⟨t, m1, rfl⟩))
      refine List.mem_map.mpr ⟨p, m2, ?_⟩
      rw [e]
      rfl
theorem cr_sortedP (hc : X.calm = true) : CallR X (.builtin "sorted") (fun xs H Q => ∃ a ps, xs = [V.ref a] ∧ SetP X.prog X.w H a ps ∧
    ∀ p H' qs, Same H H' → H p = none → Cells H' p qs → qs.Pairwise ltP → (∀ x, x ∈ qs ↔ x ∈ ps) → qs.length < 64 → Q (.ref p) H') := by
  intro pins s σ H vs us Q I r h
  obtain ⟨a, ps, rfl, ⟨L, ha, hL, mem⟩, q⟩ := h
  have R0 : SetT0 X.prog X.w s.heap a L := (I.hok a _ ha).1
  obtain ⟨es, ep, t, R⟩ := R0.full fun p hp => I.isT (tup_of (hL p hp).2)
  rw [Vals.ref1 r]
  refine sorted_pairs R (I.ok.hd hc) (fun q m => (hL q m).1) fun s' p ts c k g o hp hg own all pw le => ?_
  have few := R.few
  have lim : (ts.map fun q => V.ref q.1).length ≤ sizeLine := by
    rw [List.length_map, sizeLine_eq]
    omega
  have n : H p = none := I.hok.fresh hp
  have vals : ∀ ts : List (Addr × Pr), Vals (ts.map fun q => V.ref q.1) (ts.map fun q => Value.ref q.1) := fun ts => by
    induction ts with
    | nil => exact .nil
    | cons t ts ih => exact .cons rfl ih
  have J : Inv X pins σ (upd H p (.lst (ts.map fun q => V.ref q.1))) { s with heap := s'.heap, gens := s'.gens, drawn := s'.drawn, toks := s'.toks } :=
    I.call (ch := []) (Un.laid k hp n) (I.hok.laid k hp ⟨lim, _, c, vals ts, hg⟩) (by rw [g]; exact I.bare) (fun _ z => nomatch z)
  have e : s' = { s with heap := s'.heap, gens := s'.gens, drawn := s'.drawn, toks := s'.toks } := by
    obtain ⟨_, _, _, _, _⟩ := s'
    obtain ⟨_, _, _, _, _⟩ := s
    cases o
    rfl
  rw [e]
  have sm : Same H (upd H p (.lst (ts.map fun q => V.ref q.1))) := newS n
  refine ⟨.ref p, _, J, rfl, q p _ (ts.map (·.2)) sm n ⟨ts, upd_same, fun t m => ?_, rfl⟩ pw (fun x => (all x).trans (mem x)) (by rw [List.length_map, le]; exact few)⟩
  obtain ⟨r, mr, e1, e2⟩ := own t m
  have z := sm _ _ (hL r mr).2
  rw [len2 (hL r mr).1, e1, e2] at z
  exact z
end
section
variable {X : Cx}
theorem pg_tupK {K : PySem.W.Frag} {es : List Expr} {k : Nat} {t : TGs} {n : Nat} {pos : Pos} (hK : X.K = K) (hc : X.calm = true) (h : PGs X es t)
    (hn : (assignEach es X.env).length = n := by rfl) (hst : (assignEach es X.env).findIdx? (·.1) = none := by rfl) : PG X (.Tuple es k pos) (gTup K n t) := by
  subst hK
  exact pg_tup hc h hn hst
theorem ix_tupK {K : PySem.W.Frag} (hK : X.K = K) : IxR X (rIxT K) := by
  subst hK
  exact ix_tup
end
/-! ### comprehensions over such a list -/
theorem item_cells {H : Hp} {ts : List (Addr × Pr)} {ps : List Pr} {i : Nat} {x : V} (h : (ts.map fun t => V.ref t.1)[i]? = some x) (e : ts.map (·.2) = ps) :
    ∃ t ∈ ts, x = .ref t.1 ∧ ps[i]? = some t.2 := by
  rw [List.getElem?_map] at h
  cases q : ts[i]? with
  | none => rw [q] at h; cases h
  | some t =>
    rw [q] at h
    refine ⟨t, List.mem_of_getElem? q, (Option.some.inj h).symm, ?_⟩
    rw [← e, List.getElem?_map, q]
    rfl
theorem lc_cells {K : PySem.W.Frag} {l : Addr} {ps : List Pr} {g : TG} {tt : TT} {te : TE} {vs : List Nat} {σ : L2.St} {H1 : Hp} {D : Addr} {Qd : Hp → Prop} (f : Pr → Pr) (hC : Cells H1 l ps) (nD : H1 D = none) (few : ps.length < sizeLine)
    (hs : ∀ (t : Addr) (x : Pr) (H' : Hp) (Po : V → Hp → Prop) (Pn : Hp → Prop), Same H1 H' → H' t = some (.tup [.int x.1, .int x.2]) → (∀ t2, H' t2 = none → Po (.ref t2) (upd H' t2 (.tup [.int (f x).1, .int (f x).2]))) →
      g (.ref t) (wipe σ vs) H' fun σ2 H2 => wipe σ2 vs = wipe σ vs ∧ tt σ2 H2 fun b H3 => if b = true then te σ2 H3 Po else Pn H3)
    (hd : ∀ H', Same H1 H' → Cells H' D (ps.map f) → Qd H') :
    ∃ W : Nat → Nat → Hp → Prop, (∃ m, W 0 m (upd H1 D (.lst []))) ∧ ∀ i m H, W i m H →
      ((Itl K l).stop i H ∧ Qd H) ∨ ((Itl K l).go i H ∧ ∃ Nx : Hp → Prop, (∀ H', Nx H' → ∃ m', m' < m ∧ W (i + 1) m' H') ∧ ∀ x H', (Itl K l).yld i H x H' → g x (wipe σ vs) H' fun σ2 H2 => wipe σ2 vs = wipe σ vs ∧ tt σ2 H2 fun b H3 =>
        if b = true then te σ2 H3 fun y H4 => ∃ acc, H4 D = some (.lst acc) ∧ acc.length < sizeLine ∧ Nx (upd H4 D (.lst (acc ++ [y]))) else Nx H3) := by
  obtain ⟨ts, hl, ht, rfl⟩ := hC
  rw [List.length_map] at few
  refine lc_list (K := K) (a := l) (xs := ts.map fun t => V.ref t.1) (fun i H' => Same H1 H' ∧ ∃ us : List (Addr × Pr), H' D = some (.lst (us.map fun t => V.ref t.1)) ∧ (∀ t ∈ us, H' t.1 = some (.tup [.int t.2.1, .int t.2.2])) ∧ us.map (·.2) = ((ts.map (·.2)).take i).map f)
    ⟨newS nD, [], upd_same, fun _ m => (by cases m), rfl⟩ (fun i H' _ p => lst_of (p.1 _ _ hl)) ?_ ?_
  · rintro i x H' hi ⟨sm, us, h1, h2, h3⟩
    obtain ⟨t, mt, rfl, hp⟩ := item_cells (H := H') hi rfl
    have ul : us.length = i := by
      have z := congrArg List.length h3
      rw [List.length_map, List.length_map, List.length_take, List.length_map] at z
      have := (List.getElem?_eq_some_iff.mp hi).1
      rw [List.length_map] at this
      omega
    refine hs t.1 t.2 H' _ _ sm (sm _ _ (ht t mt)) fun t2 n2 => ⟨us.map fun t => V.ref t.1, ?_, ?_, ?_, us ++ [(t2, f t.2)], ?_, ?_, ?_⟩
    · exact newS n2 _ _ h1
    · rw [List.length_map, ul]
      have := (List.getElem?_eq_some_iff.mp hi).1
      rw [List.length_map] at this
      omega
    · exact mutS (sm.trans (newS n2)) nD
    · rw [upd_same, List.map_append]
      rfl
    · have nD2 : t2 ≠ D := fun e => by
        rw [e, h1] at n2
        cases n2
      intro u m
      rcases List.mem_append.mp m with m | m
      · have z := h2 u m
        rw [upd_ne (fun e => ?_)]
        · exact newS n2 _ _ z
        · rw [e, h1] at z
          cases z
      · rw [List.mem_singleton.mp m, upd_ne nD2, upd_same]
    · rw [List.map_append, h3, take_next hp, List.map_append]
      rfl
  · rintro H' ⟨sm, us, h1, h2, h3⟩
    refine hd H' sm ⟨us, h1, h2, ?_⟩
    rw [h3, List.length_map, List.take_of_length_le (by rw [List.length_map]; exact Nat.le_refl _)]
theorem lc_nums {K : PySem.W.Frag} {l : Addr} {ps : List Pr} {g : TG} {tt : TT} {te : TE} {vs : List Nat} {σ : L2.St} {H1 : Hp} {D : Addr} {Qd : Hp → Prop} (f : Pr → Int) (hC : Cells H1 l ps) (nD : H1 D = none) (few : ps.length < sizeLine)
    (hs : ∀ (t : Addr) (x : Pr) (H' : Hp) (Po : V → Hp → Prop) (Pn : Hp → Prop), Same H1 H' → H' t = some (.tup [.int x.1, .int x.2]) → Po (.int (f x)) H' →
      g (.ref t) (wipe σ vs) H' fun σ2 H2 => wipe σ2 vs = wipe σ vs ∧ tt σ2 H2 fun b H3 => if b = true then te σ2 H3 Po else Pn H3)
    (hd : ∀ H', Same H1 H' → H' D = some (.lst ((ps.map f).map V.int)) → Qd H') :
    ∃ W : Nat → Nat → Hp → Prop, (∃ m, W 0 m (upd H1 D (.lst []))) ∧ ∀ i m H, W i m H →
      ((Itl K l).stop i H ∧ Qd H) ∨ ((Itl K l).go i H ∧ ∃ Nx : Hp → Prop, (∀ H', Nx H' → ∃ m', m' < m ∧ W (i + 1) m' H') ∧ ∀ x H', (Itl K l).yld i H x H' → g x (wipe σ vs) H' fun σ2 H2 => wipe σ2 vs = wipe σ vs ∧ tt σ2 H2 fun b H3 =>
        if b = true then te σ2 H3 fun y H4 => ∃ acc, H4 D = some (.lst acc) ∧ acc.length < sizeLine ∧ Nx (upd H4 D (.lst (acc ++ [y]))) else Nx H3) := by
  obtain ⟨ts, hl, ht, rfl⟩ := hC
  rw [List.length_map] at few
  refine lc_list (K := K) (a := l) (xs := ts.map fun t => V.ref t.1) (fun i H' => Same H1 H' ∧ H' D = some (.lst ((((ts.map (·.2)).take i).map f).map V.int)))
    ⟨newS nD, upd_same⟩ (fun i H' _ p => lst_of (p.1 _ _ hl)) ?_ ?_
  · rintro i x H' hi ⟨sm, h1⟩
    obtain ⟨t, mt, rfl, hp⟩ := item_cells (H := H') hi rfl
    refine hs t.1 t.2 H' _ _ sm (sm _ _ (ht t mt)) ⟨_, h1, ?_, mutS sm nD, ?_⟩
    · rw [List.length_map, List.length_map, List.length_take, List.length_map]
      omega
    · rw [upd_same, take_next hp, List.map_append, List.map_append]
      rfl
  · rintro H' ⟨sm, h1⟩
    rw [List.length_map, List.take_of_length_le (by rw [List.length_map]; exact Nat.le_refl _)] at h1
    exact hd H' sm h1
/-! ### one such list -/
def CanP (ps qs : List Pr) : Prop := qs.Pairwise ltP ∧ ∀ x, x ∈ qs ↔ x ∈ ps
theorem ltP_iff {p q : Pr} : ltP p q ↔ p.1 < q.1 ∨ (p.1 = q.1 ∧ p.2 < q.2) := SrtO.lexB_iff
theorem ascP_eq : ∀ {l m : List Pr}, l.Pairwise ltP → m.Pairwise ltP → (∀ k, k ∈ l ↔ k ∈ m) → l = m
  | [], [], _, _, _ => rfl
  | [], y :: m, _, _, h => absurd ((h y).mpr List.mem_cons_self) (by simp)
  | x :: l, [], _, _, h => absurd ((h x).mp List.mem_cons_self) (by simp)
  | x :: l, y :: m, hl, hm, h => by
    obtain ⟨h1, h2⟩ := List.pairwise_cons.mp hl
    obtain ⟨h3, h4⟩ := List.pairwise_cons.mp hm
    have irr : ∀ a b : Pr, ltP a b → ltP b a → False := fun a b p q => by
      have p := ltP_iff.mp p
      have q := ltP_iff.mp q
      omega
    have e : x = y := by
      rcases List.mem_cons.mp ((h x).mp List.mem_cons_self) with e | e
      · exact e
      · rcases List.mem_cons.mp ((h y).mpr List.mem_cons_self) with e2 | e2
        · exact e2.symm
        · exact (irr _ _ (h3 _ e) (h1 _ e2)).elim
    subst e
    rw [ascP_eq h2 h4 fun k => ?_]
    have q := h k
    constructor
    · intro hk
      rcases List.mem_cons.mp (q.mp (List.mem_cons_of_mem _ hk)) with e | e
      · have z := h1 _ hk
        rw [e] at z
        exact (irr _ _ z z).elim
      · exact e
    · intro hk
      rcases List.mem_cons.mp (q.mpr (List.mem_cons_of_mem _ hk)) with e | e
      · have z := h3 _ hk
        rw [e] at z
        exact (irr _ _ z z).elim
      · exact e
theorem canP_eq {ps qs m : List Pr} (h : CanP ps qs) (h2 : m.Pairwise ltP) (h3 : ∀ k, k ∈ ps ↔ k ∈ m) : qs = m := ascP_eq h.1 h2 fun k => (h.2 k).trans (h3 k)
/-! ### as data -/
def pd (p : Pr) : PyData := .tuple [.int p.1, .int p.2]
theorem eqv_pd (p q : Pr) : PyData.eqv (pd p) (pd q) = decide (p = q) := by
  show ((p.1 == q.1) && ((p.2 == q.2) && true)) = _
  obtain ⟨a, b⟩ := p
  obtain ⟨c, d⟩ := q
  by_cases e1 : a = c <;> by_cases e2 : b = d <;> simp [e1, e2]
theorem eqvAll_pd : ∀ (l m : List Pr), PyData.eqvAll (l.map pd) (m.map pd) = decide (l = m)
  | [], [] => by simp [PyData.eqvAll]
  | [], y :: m => by simp [PyData.eqvAll]
  | x :: l, [] => by simp [PyData.eqvAll]
  | x :: l, y :: m => by
    show (PyData.eqv (pd x) (pd y) && PyData.eqvAll (l.map pd) (m.map pd)) = _
    rw [eqvAll_pd l m, eqv_pd]
    by_cases e : x = y <;> by_cases e2 : l = m <;> simp [e, e2]
theorem eqv_cells (l m : List Pr) : PyData.eqv (.list (l.map pd)) (.list (m.map pd)) = decide (l = m) := eqvAll_pd l m
theorem canAll_pd : ∀ l : List Pr, PyData.canLayAll0 (l.map pd) = true
  | [] => by simp [PyData.canLayAll0]
  | x :: l => by
    rw [List.map_cons]
    simp [PyData.canLayAll0, PyData.canLay0, pd, canAll_pd l]
theorem depAll_pd : ∀ l : List Pr, PyData.depthAll (l.map pd) ≤ 1
  | [] => by simp [PyData.depthAll]
  | x :: l => by
    rw [List.map_cons]
    have := depAll_pd l
    simp only [PyData.depthAll, PyData.depth, pd]
    omega
theorem shaped_cells (l : List Pr) : SeqAt.shaped (.list (l.map pd)) = true := by
  unfold SeqAt.shaped
  have := depAll_pd l
  simp only [PyData.canLay0, PyData.depth, canAll_pd]
  simp
  omega
theorem dp_cells {K : PySem.W.Frag} {H : Hp} {a : Addr} {ps : List Pr} (h : Cells H a ps) : Dp K H (.ref a) (.list (ps.map pd)) := by
  obtain ⟨ts, hl, ht, rfl⟩ := h
  refine .lst (lst_of hl) ?_
  have go : ∀ us : List (Addr × Pr), (∀ t ∈ us, H t.1 = some (.tup [.int t.2.1, .int t.2.2])) → DpAll K H (us.map fun t => V.ref t.1) ((us.map (·.2)).map pd) := fun us => by
    induction us with
    | nil => exact fun _ => .nil
    | cons t us ih => exact fun h => .cons (.tup (tup_of (h t List.mem_cons_self)) (.cons (.int _) (.cons (.int _) .nil))) (ih fun u m => h u (List.mem_cons_of_mem _ m))
  exact go ts ht
/-! ### sorted, of such a list -/
def kH (H : Hp) : V → Pr
  | .ref a => match H a with
    | some (.tup [.int x, .int y]) => (x, y)
    | _ => (0, 0)
  | _ => (0, 0)
def adV : V → Addr
  | .ref a => a
  | _ => 0
theorem kH_at {H : Hp} {a : Addr} {x : Pr} (h : H a = some (.tup [.int x.1, .int x.2])) : kH H (.ref a) = x := by
  show (match H a with
    | some (.tup [.int x, .int y]) => (x, y)
    | _ => (0, 0)) = x
  rw [h]
theorem ltP_irr {a b : Pr} (p : ltP a b) (q : ltP b a) : False := by
  have p := ltP_iff.mp p
  have q := ltP_iff.mp q
  omega
theorem nodup_lt {l : List Pr} (h : l.Pairwise ltP) : l.Nodup := h.imp fun {a b} q e => by
  subst e
  exact ltP_irr q q
theorem cr_sortedC {X : Cx} : CallR X (.builtin "sorted") (fun xs H Q => ∃ l ps, xs = [V.ref l] ∧ Cells H l ps ∧ ps.Nodup ∧
    ∀ p H' qs, Same H H' → H p = none → Cells H' p qs → CanP ps qs → qs.length = ps.length → Q (.ref p) H') := by
  intro pins s σ H xs us Q I r h
  obtain ⟨l, ps, rfl, ⟨ts, hl, ht, rfl⟩, nd, q⟩ := h
  refine cr_sortedPO pins s σ H [V.ref l] us Q I r ⟨l, ts.map fun t => V.ref t.1, kH H, rfl, lst_of hl, fun x m => ?_, fun ys p srt stb n => ?_⟩
  · obtain ⟨t, m1, rfl⟩ := List.mem_map.mp m
    have g := ht t m1
    refine ⟨t.1, rfl, ?_⟩
    rw [kH_at g]
    exact g
  · have own : ∀ y ∈ ys, ∃ t ∈ ts, y = V.ref t.1 := fun y m => by
      obtain ⟨t, m1, e⟩ := List.mem_map.mp (stb.perm.mem_iff.mp m)
      exact ⟨t, m1, e.symm⟩
    have key : ∀ t ∈ ts, kH H (.ref t.1) = t.2 := fun t m => kH_at (ht t m)
    have pm : (ys.map (kH H)).Perm (ts.map (·.2)) := by
      have z := stb.perm.map (kH H)
      rw [List.map_map] at z
      rw [show ts.map (·.2) = ts.map (kH H ∘ fun t => V.ref t.1) from List.map_congr_left fun t m => (key t m).symm]
      exact z
    have sm : Same H (upd H p (.lst ys)) := newS n
    have eo : (ys.map fun v => (adV v, kH H v)).map (fun t => V.ref t.1) = ys := by
      rw [List.map_map]
      refine (List.map_congr_left fun v m => ?_).trans (List.map_id _)
      obtain ⟨t, _, rfl⟩ := own v m
      rfl
    refine q p _ (ys.map (kH H)) sm n ⟨ys.map fun v => (adV v, kH H v), ?_, fun u m => ?_, ?_⟩ ⟨?_, fun x => pm.mem_iff⟩ pm.length_eq
    · rw [eo, upd_same]
    · obtain ⟨v, m1, rfl⟩ := List.mem_map.mp m
      obtain ⟨t, m2, rfl⟩ := own v m1
      refine sm _ _ ?_
      show H t.1 = _
      rw [key t m2]
      exact ht t m2
    · rw [List.map_map]
      rfl
    · have nd2 : (ys.map (kH H)).Nodup := pm.nodup_iff.mpr nd
      refine List.pairwise_map.mpr ((srt.and (List.pairwise_map.mp nd2)).imp fun {u v} h => ?_)
      have a1 := SrtO.lexB_no.mp h.1
      have a2 : ¬ ((kH H u).1 = (kH H v).1 ∧ (kH H u).2 = (kH H v).2) := fun e => h.2 (Prod.ext e.1 e.2)
      refine ltP_iff.mpr ?_
      omega
/-! ### dicts whose keys are such pairs -/
def keyP (x : Pr) : List L2.Key := [Sum.inl x.1, Sum.inl x.2]
theorem keyP_inj {x y : Pr} (h : keyP x = keyP y) : x = y := by
  injection h with h1 h2
  injection h2 with h2 _
  exact Prod.ext (Sum.inl.inj h1) (Sum.inl.inj h2)
def KeysP (kvs : List (List L2.Key × V)) (ps : List Pr) : Prop := kvs.map (·.1) = ps.map keyP ∧ ps.Nodup
theorem KeysP.put {kvs : List (List L2.Key × V)} {ps : List Pr} (h : KeysP kvs ps) (x : Pr) (v : V) :
    ∃ qs, KeysP (putK kvs (keyP x) v) qs ∧ qs.length ≤ ps.length + 1 ∧ ∀ y, y ∈ qs ↔ y ∈ ps ∨ y = x := by
  have mem : (kvs.any fun kv => decide (kv.1 = keyP x)) = true ↔ x ∈ ps := by
    rw [List.any_eq_true]
    constructor
    · rintro ⟨kv, m, e⟩
      have m2 : kv.1 ∈ ps.map keyP := by
        rw [← h.1]
        exact List.mem_map.mpr ⟨kv, m, rfl⟩
      obtain ⟨y, my, ey⟩ := List.mem_map.mp m2
      rw [← keyP_inj (ey.trans (of_decide_eq_true e))]
      exact my
    · intro m
      have m2 : keyP x ∈ kvs.map (·.1) := by
        rw [h.1]
        exact List.mem_map.mpr ⟨x, m, rfl⟩
      obtain ⟨kv, mk, e⟩ := List.mem_map.mp m2
      exact ⟨kv, mk, decide_eq_true e⟩
  by_cases c : x ∈ ps
  · refine ⟨ps, ⟨?_, h.2⟩, by omega, fun y => ⟨.inl, fun z => z.elim id fun e => e ▸ c⟩⟩
    unfold putK
    rw [if_pos (mem.mpr c), List.map_map, ← h.1]
    refine List.map_congr_left fun kv _ => ?_
    show (if kv.1 = keyP x then (kv.1, v) else kv).1 = kv.1
    by_cases e : kv.1 = keyP x
    · rw [if_pos e]
    · rw [if_neg e]
  · refine ⟨ps ++ [x], ⟨?_, ?_⟩, by rw [List.length_append]; exact Nat.le_refl _, fun y => by rw [List.mem_append, List.mem_singleton]⟩
    · unfold putK
      rw [if_neg (fun z => c (mem.mp z)), List.map_append, List.map_append, h.1]
      rfl
    · refine List.pairwise_append.mpr ⟨h.2, List.pairwise_cons.mpr ⟨fun _ m => (by cases m), List.Pairwise.nil⟩, fun a ma b mb e => ?_⟩
      rw [List.mem_singleton.mp mb] at e
      exact c (e ▸ ma)
theorem KeysP.len {kvs : List (List L2.Key × V)} {ps : List Pr} (h : KeysP kvs ps) : kvs.length = ps.length := by
  have z := congrArg List.length h.1
  rw [List.length_map, List.length_map] at z
  exact z
theorem KeysP.at {kvs : List (List L2.Key × V)} {ps : List Pr} (h : KeysP kvs ps) {i : Nat} {k : List L2.Key} {v : V} (e : kvs[i]? = some (k, v)) : ∃ x, ps[i]? = some x ∧ k.map kV = [.int x.1, .int x.2] := by
  have z := congrArg (fun l => l[i]?) h.1
  simp only [List.getElem?_map] at z
  rw [e] at z
  cases q : ps[i]? with
  | none => rw [q] at z; cases z
  | some x =>
    rw [q] at z
    refine ⟨x, rfl, ?_⟩
    have : k = keyP x := Option.some.inj z
    rw [this]
    rfl
/-- the keys of such a dict, listed -/
theorem lc_keysP {d : Addr} {od : Obj} {kvs : List (List L2.Key × V)} {ps : List Pr} {vs : List Nat} {σ : L2.St} {H1 : Hp} {D : Addr} {Qd : Hp → Prop} {g : TG} {tt : TT} {te : TE} (hK : KeysP kvs ps) (hD : H1 d = some (.frz od (.dT kvs))) (nD : H1 D = none) (few : ps.length < sizeLine)
    (hs : ∀ (t : Addr) (x : Pr) (H' : Hp) (Po : V → Hp → Prop) (Pn : Hp → Prop), H' t = some (.tup [.int x.1, .int x.2]) → Po (.ref t) H' →
      g (.ref t) (wipe σ vs) H' fun σ2 H2 => wipe σ2 vs = wipe σ vs ∧ tt σ2 H2 fun b H3 => if b = true then te σ2 H3 Po else Pn H3)
    (hd : ∀ H', Same H1 H' → Cells H' D ps → Qd H') :
    ∃ W : Nat → Nat → Hp → Prop, (∃ m, W 0 m (upd H1 D (.lst []))) ∧ ∀ i m H, W i m H →
      ((Itkt d od kvs).stop i H ∧ Qd H) ∨ ((Itkt d od kvs).go i H ∧ ∃ Nx : Hp → Prop, (∀ H', Nx H' → ∃ m', m' < m ∧ W (i + 1) m' H') ∧ ∀ x H', (Itkt d od kvs).yld i H x H' → g x (wipe σ vs) H' fun σ2 H2 => wipe σ2 vs = wipe σ vs ∧ tt σ2 H2 fun b H3 =>
        if b = true then te σ2 H3 fun y H4 => ∃ acc, H4 D = some (.lst acc) ∧ acc.length < sizeLine ∧ Nx (upd H4 D (.lst (acc ++ [y]))) else Nx H3) := by
  have len := hK.len
  refine lc_it walk_keysT (fun i H' => Same H1 H' ∧ ∃ us : List (Addr × Pr), H' D = some (.lst (us.map fun t => V.ref t.1)) ∧ (∀ t ∈ us, H' t.1 = some (.tup [.int t.2.1, .int t.2.2])) ∧ us.map (·.2) = ps.take i)
    ⟨newS nD, [], upd_same, fun _ m => (by cases m), rfl⟩ (fun i H' _ p => p.1 _ _ hD) ?_ ?_
  · rintro i x H' H2 hi ⟨sm, us, h1, h2, h3⟩ ⟨rfl, k, v, q, e, rfl, hq⟩
    obtain ⟨y, hy, ek⟩ := hK.at e
    rw [ek] at hq
    have ul : us.length = i := by
      have z := congrArg List.length h3
      rw [List.length_map, List.length_take] at z
      omega
    refine hs q y _ _ _ hq ⟨_, h1, ?_, mutS sm nD, us ++ [(q, y)], ?_, ?_, ?_⟩
    · rw [List.length_map]
      omega
    · rw [upd_same, List.map_append]
      rfl
    · intro u m
      have off : ∀ z : Addr × Pr, H2 z.1 = some (.tup [.int z.2.1, .int z.2.2]) → upd H2 D (.lst ((us.map fun t => V.ref t.1) ++ [V.ref q])) z.1 = some (.tup [.int z.2.1, .int z.2.2]) := fun z g => by
        rw [upd_ne (fun e => ?_)]
        · exact g
        · rw [e, h1] at g
          cases g
      rcases List.mem_append.mp m with m | m
      · exact off u (h2 u m)
      · rw [List.mem_singleton.mp m]
        exact off (q, y) hq
    · rw [List.map_append, h3, take_next hy]
      rfl
  · rintro H' ⟨sm, us, h1, h2, h3⟩
    refine hd H' sm ⟨us, h1, h2, ?_⟩
    rw [h3, List.take_of_length_le (by omega)]
/-- such a list outlives a change of an object that is no tuple and not the list -/
theorem Cells.mut {H : Hp} {l d : Addr} {ps : List Pr} {o : HO} (h : Cells H l ps) (ne : l ≠ d) (nt : ∀ xs, H d ≠ some (.tup xs)) : Cells (upd H d o) l ps := by
  obtain ⟨ts, h1, h2, h3⟩ := h
  refine ⟨ts, by rw [upd_ne ne]; exact h1, fun t m => ?_, h3⟩
  rw [upd_ne (fun e => nt _ (e ▸ h2 t m))]
  exact h2 t m
theorem cells_mk {H : Hp} {l : Addr} (us : List (Addr × Pr)) (h : H l = some (.lst (us.map fun t => V.ref t.1))) (ht : ∀ u ∈ us, H u.1 = some (.tup [.int u.2.1, .int u.2.2])) : Cells H l (us.map (·.2)) := ⟨us, h, ht, rfl⟩
def cutT {α : Type} (ts : List α) (lo hi : Option Int) : List α := (ts.drop (HT.sIx ts.length 0 lo)).take (HT.sIx ts.length ts.length hi - HT.sIx ts.length 0 lo)
theorem cutV_map {α : Type} (f : α → V) (ts : List α) (lo hi : Option Int) : cutV (ts.map f) lo hi = (cutT ts lo hi).map f := by
  unfold cutV cutT
  rw [List.length_map, List.map_take, List.map_drop]
theorem cutT_mem {α : Type} {ts : List α} {lo hi : Option Int} {x : α} (h : x ∈ cutT ts lo hi) : x ∈ ts := List.mem_of_mem_drop (List.mem_of_mem_take h)
theorem cutT_len {α : Type} (ts : List α) (lo hi : Option Int) : (cutT ts lo hi).length ≤ ts.length := by
  unfold cutT
  rw [List.length_take, List.length_drop]
  omega
theorem eq_cells {l m : List Pr} (h : l = m) : V.bl (PyData.eqv (.list (l.map pd)) (.list (m.map pd))) = V.bl true := by
  rw [eqv_cells, decide_eq_true h]
theorem ne_cells {l m : List Pr} (h : l = m) : V.bl (!PyData.eqv (.list (l.map pd)) (.list (m.map pd))) = V.bl false := by
  rw [eqv_cells, decide_eq_true h] <;> rfl
theorem pw_map {f : Pr → Pr} (hf : ∀ x y, ltP x y → ltP (f x) (f y)) {l : List Pr} (h : l.Pairwise ltP) : (l.map f).Pairwise ltP := List.pairwise_map.mpr (h.imp fun {x y} q => hf x y q)
theorem nodup_map {f : Pr → Pr} (hf : ∀ x y, f x = f y → x = y) {l : List Pr} (h : l.Nodup) : (l.map f).Nodup := List.pairwise_map.mpr (h.imp fun {x y} q e => q (hf x y e))
theorem mem_map2 {f : Pr → Pr} {l m : List Pr} (h : ∀ x, x ∈ l ↔ x ∈ m) (k : Pr) : k ∈ l.map f ↔ k ∈ m.map f := by
  rw [List.mem_map, List.mem_map]
  exact ⟨fun ⟨x, m1, e⟩ => ⟨x, (h x).mp m1, e⟩, fun ⟨x, m1, e⟩ => ⟨x, (h x).mpr m1, e⟩⟩
theorem wipe2 (σ : L2.St) (i j : Nat) (a b : Option V) : wipe (((wipe σ [i, j]).set i a).set j b) [i, j] = wipe σ [i, j] := by
  refine List.ext_getElem? fun k => ?_
  show ((((((σ.set j none).set i none).set i a).set j b).set j none).set i none)[k]? = ((σ.set j none).set i none)[k]?
  simp only [List.getElem?_set, List.length_set]
  by_cases e1 : i = k <;> by_cases e2 : j = k <;> by_cases e3 : k < σ.length <;> simp [e1, e2, e3]
end Vx
namespace Vx
open PySem PySem.Spec PyProof.Rows L2
section
variable {X : Cx}
/-- xs[j], read for xs[j] op= v -/
theorem pget_list : PGet X (fun o i H Q => ∃ p xs j v, o = .ref p ∧ i = .int ((j : Nat) : Int) ∧ SqL X.K H p xs ∧ xs[j]? = some v ∧ Q v H) := by
  intro pins s σ H o i ov iv Q I ro ri h
  obtain ⟨p, xs, j, v, rfl, rfl, hs, hv, q⟩ := h
  cases ro
  obtain ⟨t, rfl⟩ := ri
  obtain ⟨its, r, pl, hz⟩ := I.list hs
  obtain ⟨w, ew, rw'⟩ := r.get hv
  exact getItem_listL pl.isList (by omega) (by have := line63; have := (List.getElem?_eq_some_iff.mp hv).1; omega) (by simpa using ew) ⟨v, H, I, rw', q⟩
theorem ip_addS : PIp X .Add (fun x y H Q => ∃ i j, x = .str i ∧ y = .str j ∧ i.length + j.length ≤ sizeLine ∧ Q (.str (i ++ j)) H) := fun pins s σ H x y v u Q I r1 r2 h => iop_add_str pins s σ H x y v u Q I r1 r2 h
end
theorem lc_pairs {lo : Int} {n : Nat} {g : TG} {tt : TT} {te : TE} {vs : List Nat} {σ : L2.St} {H1 : Hp} {D : Addr} {Qd : Hp → Prop} (f : Nat → Pr) (nD : H1 D = none) (few : n < sizeLine)
    (hs : ∀ (i : Nat) (H' : Hp) (Po : V → Hp → Prop) (Pn : Hp → Prop), i < n → Same H1 H' → (∀ t2, H' t2 = none → Po (.ref t2) (upd H' t2 (.tup [.int (f i).1, .int (f i).2]))) →
      g (.int (lo + i)) (wipe σ vs) H' fun σ2 H2 => wipe σ2 vs = wipe σ vs ∧ tt σ2 H2 fun b H3 => if b = true then te σ2 H3 Po else Pn H3)
    (hd : ∀ (H' : Hp) (us : List (Addr × Pr)), Same H1 H' → H' D = some (.lst (us.map fun t => V.ref t.1)) → (∀ t ∈ us, H' t.1 = some (.tup [.int t.2.1, .int t.2.2])) → us.map (·.2) = (List.range n).map f → Qd H') :
    ∃ W : Nat → Nat → Hp → Prop, (∃ m, W 0 m (upd H1 D (.lst []))) ∧ ∀ i m H, W i m H →
      ((Itr lo n).stop i H ∧ Qd H) ∨ ((Itr lo n).go i H ∧ ∃ Nx : Hp → Prop, (∀ H', Nx H' → ∃ m', m' < m ∧ W (i + 1) m' H') ∧ ∀ x H', (Itr lo n).yld i H x H' → g x (wipe σ vs) H' fun σ2 H2 => wipe σ2 vs = wipe σ vs ∧ tt σ2 H2 fun b H3 =>
        if b = true then te σ2 H3 fun y H4 => ∃ acc, H4 D = some (.lst acc) ∧ acc.length < sizeLine ∧ Nx (upd H4 D (.lst (acc ++ [y]))) else Nx H3) := by
  refine lc_range (lo := lo) (n := n) (fun i H' => Same H1 H' ∧ ∃ us : List (Addr × Pr), H' D = some (.lst (us.map fun t => V.ref t.1)) ∧ (∀ t ∈ us, H' t.1 = some (.tup [.int t.2.1, .int t.2.2])) ∧ us.map (·.2) = (List.range i).map f)
    ⟨newS nD, [], upd_same, fun _ m => (by cases m), rfl⟩ ?_ ?_
  · rintro i H' hi ⟨sm, us, h1, h2, h3⟩
    have ul : us.length = i := by
      have z := congrArg List.length h3
      rw [List.length_map, List.length_map, List.length_range] at z
      exact z
    refine hs i H' _ _ hi sm fun t2 n2 => ⟨us.map fun t => V.ref t.1, newS n2 _ _ h1, ?_, mutS (sm.trans (newS n2)) nD, us ++ [(t2, f i)], ?_, ?_, ?_⟩
    · rw [List.length_map, ul]
      omega
    · rw [upd_same, List.map_append]
      rfl
    · have nD2 : t2 ≠ D := fun e => by
        rw [e, h1] at n2
        cases n2
      intro u m
      rcases List.mem_append.mp m with m | m
      · have z := h2 u m
        rw [upd_ne (fun e => ?_)]
        · exact newS n2 _ _ z
        · rw [e, h1] at z
          cases z
      · rw [List.mem_singleton.mp m, upd_ne nD2, upd_same]
    · rw [List.map_append, h3, List.range_succ, List.map_append]
      rfl
  · rintro H' ⟨sm, us, h1, h2, h3⟩
    exact hd H' us sm h1 h2 h3
/-- a pair in a list of pairs -/
theorem any_pd (p : Pr) : ∀ ps : List Pr, (ps.map pd).any (fun z => PyData.eqv z (pd p)) = decide (p ∈ ps)
  | [] => by simp
  | q :: ps => by
    rw [List.map_cons, List.any_cons, any_pd p ps, eqv_pd]
    by_cases e : q = p
    · subst e
      simp
    · have e2 : ¬ p = q := fun z => e z.symm
      simp [e, e2]
theorem shaped_pd (p : Pr) : SeqAt.shaped (pd p) = true := by
  unfold SeqAt.shaped pd
  simp [PyData.canLay0, PyData.canLayAll0, PyData.depth, PyData.depthAll]
theorem op_inP {X : Cx} (hu : X.A.units + 65 < cLine) : OpR X (compareOp .In) (fun x y H Q => ∃ (t a : Addr) (p : Pr) (ps : List Pr), x = .ref t ∧ y = .ref a ∧ H t = some (.tup [.int p.1, .int p.2]) ∧ Cells H a ps ∧ Q (.bl (decide (p ∈ ps))) H) := by
  intro pins s σ H x y v u Q I rx ry h
  obtain ⟨t, a, p, ps, rfl, rfl, ht, hc, q⟩ := h
  refine op_inD hu pins s σ H _ _ v u Q I rx ry ⟨pd p, ps.map pd, .tup (tup_of ht) (.cons (.int _) (.cons (.int _) .nil)), dp_cells hc, shaped_pd p, shaped_cells ps, ?_⟩
  rw [any_pd]
  exact q
/-- sorted, of a list of pairs that may hold one several times -/
theorem cr_sortedN {X : Cx} : CallR X (.builtin "sorted") (fun xs H Q => ∃ l ps, xs = [V.ref l] ∧ Cells H l ps ∧
    ∀ p H' qs, Same H H' → H p = none → Cells H' p qs → qs.Perm ps → qs.Pairwise (fun x y => ¬ ltP y x) → Q (.ref p) H') := by
  intro pins s σ H xs us Q I r h
  obtain ⟨l, ps, rfl, ⟨ts, hl, ht, rfl⟩, q⟩ := h
  refine cr_sortedPO pins s σ H [V.ref l] us Q I r ⟨l, ts.map fun t => V.ref t.1, kH H, rfl, lst_of hl, fun x m => ?_, fun ys p srt stb n => ?_⟩
  · obtain ⟨t, m1, rfl⟩ := List.mem_map.mp m
    have g := ht t m1
    refine ⟨t.1, rfl, ?_⟩
    rw [kH_at g]
    exact g
  · have own : ∀ y ∈ ys, ∃ t ∈ ts, y = V.ref t.1 := fun y m => by
      obtain ⟨t, m1, e⟩ := List.mem_map.mp (stb.perm.mem_iff.mp m)
      exact ⟨t, m1, e.symm⟩
    have key : ∀ t ∈ ts, kH H (.ref t.1) = t.2 := fun t m => kH_at (ht t m)
    have pm : (ys.map (kH H)).Perm (ts.map (·.2)) := by
      have z := stb.perm.map (kH H)
      rw [List.map_map] at z
      rw [show ts.map (·.2) = ts.map (kH H ∘ fun t => V.ref t.1) from List.map_congr_left fun t m => (key t m).symm]
      exact z
    have sm : Same H (upd H p (.lst ys)) := newS n
    have eo : (ys.map fun v => (adV v, kH H v)).map (fun t => V.ref t.1) = ys := by
      rw [List.map_map]
      refine (List.map_congr_left fun v m => ?_).trans (List.map_id _)
      obtain ⟨t, _, rfl⟩ := own v m
      rfl
    refine q p _ (ys.map (kH H)) sm n ⟨ys.map fun v => (adV v, kH H v), ?_, fun u m => ?_, ?_⟩ pm ?_
    · rw [eo, upd_same]
    · obtain ⟨v, m1, rfl⟩ := List.mem_map.mp m
      obtain ⟨t, m2, rfl⟩ := own v m1
      refine sm _ _ ?_
      show H t.1 = _
      rw [key t m2]
      exact ht t m2
    · rw [List.map_map]
      rfl
    · refine List.pairwise_map.mpr (srt.imp fun {u v} h z => ?_)
      have h : SrtO.lexB (kH H v) (kH H u) = false := h
      have z : SrtO.lexB (kH H v) (kH H u) = true := z
      rw [h] at z
      cases z
end Vx
namespace Vx
open PySem PySem.Spec PyProof.Rows L2
/-! ### the items of a dict whose keys are tuples -/
section
variable {X : Cx} {pins : List (Addr × Obj)} {σ : L2.St} {H : Hp} {s : Shared} {d : Addr} {o : Obj}
theorem frzT2 {kvs : List (List L2.Key × V)} (I : Inv X pins σ H s) (h : H d = some (.frz o (.dT kvs))) :
    (d == sysModules) = false ∧ s.heap.get? d = some o ∧ o.ExactDict ∧ ∃ (es : Array DictEntry) (ep : Nat), o.data = .dict es ep ∧ es.size = kvs.length ∧
      ∀ (i : Nat) (k : List L2.Key) (v : V), kvs[i]? = some (k, v) → ∃ (en : DictEntry) (q : Addr), es[i]? = some en ∧ en.key = .ref q ∧ H q = some (.tup (k.map kV)) ∧ RelV v en.val := by
  obtain ⟨hd, z, hs, xs, pr, o', es, ep, ho, hx, hdt, he, _⟩ := I.hok d _ h
  have eo : o = o' := Option.some.inj (hd.symm.trans ho)
  subst eo
  refine ⟨hs, hd, hx, es, ep, hdt, (size_of_entries he).trans (Paired.length pr).symm, fun i k v e => ?_⟩
  obtain ⟨b, hb, _, e2, e3⟩ := paired_get pr e
  refine ⟨entryOfKey (tupleKind (mixKind X.prog X.w)) b, b.2.1, ?_, rfl, e2, e3⟩
  rw [entry_at he i, hb]
  rfl
end
/-- its items, each a new pair of the key's tuple and the value -/
def ItiT (d : Addr) (o : Obj) (kvs : List (List L2.Key × V)) : It where
  go i H := H d = some (.frz o (.dT kvs)) ∧ i < kvs.length
  yld i H x H' := ∃ (T : Addr) (k : List L2.Key) (v : V) (q : Addr), kvs[i]? = some (k, v) ∧ x = .ref T ∧ H q = some (.tup (k.map kV)) ∧ H T = none ∧ H' = upd H T (.tup [.ref q, v])
  stop i H := H d = some (.frz o (.dT kvs)) ∧ kvs.length ≤ i
section
variable {P : Program} {w : World} {K : PySem.W.Frag} {d : Addr} {o : Obj} {es : Array DictEntry} {ep : Nat}
theorem turn_itemsT {kvs : List (List L2.Key × V)} {elts : List Expr} {kk : Nat} {tpos : Pos} (it : Addr) (hod : o.data = .dict es ep) :
    Turn P w K (.Tuple elts kk tpos) (ItiT d o kvs) [it] it (fun i h => ∃ ok ov, IsItemIter h it d i kvs.length ep ok ov) where
  mem := List.mem_singleton.mpr rfl
  obj := fun i h st b hb => by
    obtain ⟨ok, ov, e⟩ := st
    rw [List.mem_singleton.mp hb]
    exact ⟨_, e, fun v z => nomatch z⟩
  keep := fun i h h' st k => by
    obtain ⟨ok, ov, e⟩ := st
    exact ⟨ok, ov, k it (List.mem_singleton.mpr rfl) _ e⟩
  item := by
    intro X hP hw hK hc i pins s σ H E I hf st hg
    subst hP hw hK
    obtain ⟨hd, hi⟩ := hg
    obtain ⟨hs, hgd, hx, es', ep', hdt, hsz, ent⟩ := frzT2 I hd
    obtain ⟨rfl, rfl⟩ := dict_ep hod hdt
    obtain ⟨⟨k, v⟩, hkv⟩ : ∃ p, kvs[i]? = some p := ⟨kvs[i], List.getElem?_eq_getElem hi⟩
    obtain ⟨en, q, hen, hkey, hq, rv⟩ := ent i k v hkv
    obtain ⟨ok, ov, he⟩ := st
    have hlt : it < s.heap.objs.size := Heap.lt_size he
    have hi' : i < es'.size := by
      rw [hsz]
      exact hi
    have een : es'[i] = en := by
      rw [Array.getElem?_eq_getElem hi'] at hen
      exact Option.some.inj hen
    rw [← hsz] at he
    refine DT.nextI he ⟨o, hgd, hx, hdt⟩ hi' fun h' ho hT hz hk => ?_
    rw [een, hkey] at ho hT
    refine ⟨_, rfl, wpAny_letOwnedTupleGo_items (s := { s with heap := h' }) ho fun h'' he' sb => ?_⟩
    have hT2 : h''.get? s.heap.objs.size = some { cls := .type "tuple", data := .seq #[.ref q, en.val] } := (sb.2 _ (Nat.ne_of_gt hlt)).trans hT
    have new : ObjOk X.prog X.w (upd H s.heap.objs.size (.tup [.ref q, v])) h'' s.heap.objs.size (.tup [.ref q, v]) :=
      ⟨by show 2 ≤ sizeLine; decide, [.ref q, en.val], .cons rfl (.cons rv .nil), ⟨_, hT2, rfl, _, rfl⟩⟩
    have I1 : Inv X pins σ (upd H s.heap.objs.size (.tup [.ref q, v])) { s with heap := h'' } :=
      I.turnedNew (t' := s.toks) (ch := [it]) (fun b ob hb e => (sb.2 b (by simpa using hb)).trans (hk b ob (by simpa using hb) e)) hf (Nat.le_refl _) new
    refine ⟨.ref s.heap.objs.size, _, I1, rfl, ⟨_, k, v, q, hkv, rfl, hq, I.hok.fresh (Nat.le_refl _), rfl⟩, ⟨.ref q, en.val, ?_⟩, fun b hb => ?_⟩
    · rw [← hsz]
      exact he'
    · rw [List.mem_singleton.mp hb, upd_ne (Nat.ne_of_lt hlt)]
      exact (hf it (List.mem_singleton.mpr rfl)).1
  done := by
    intro X hP hw hK hc i pins s σ H E I hf st hg
    subst hP hw hK
    obtain ⟨hd, hi⟩ := hg
    obtain ⟨f0, f1, f2, f3, f4, f5⟩ := hf it (List.mem_singleton.mpr rfl)
    obtain ⟨hs, hgd, hx, es', ep', hdt, hsz, ent⟩ := frzT2 I hd
    obtain ⟨rfl, rfl⟩ := dict_ep hod hdt
    obtain ⟨ok, ov, he⟩ := st
    rw [← hsz] at he
    exact DT.endI (I.ok.hd hc) he ⟨o, hgd, hx, hdt⟩ (by omega) fun h' eb => ⟨rfl, I.turned (t' := s.toks) (fun b ob hb e => eb b ob hb e) f0 f1 f3 f4 f5⟩
  self := fun A i s Q E st h => by
    obtain ⟨_, _, e⟩ := st
    exact PySem.W.kcp_self e h
end
def iItemsT (td : TE) : TI := fun σ H R => td σ H fun x H1 => ∃ d o kvs, x = .ref d ∧ H1 d = some (.frz o (.dT kvs)) ∧ R (ItiT d o kvs) H1
theorem pi_itemsT {X : Cx} {e : Expr} {td : TE} {apos cpos tpos : Pos} {elts : List Expr} {kk : Nat} (he : PE X e td) (hbase : attributeBase e "items" X.env (eval e X.env) = eval e X.env := by rfl) (hline : (apos.endLine == cpos.line) = true := by rfl) :
    PI X (.Tuple elts kk tpos) (.Call (.Attribute e "items" apos) [] [] cpos) (iItemsT td) := by
  refine ⟨fun pins s σ H R I h => ?_⟩
  refine wpAny_Call_method (T := "dict") (id := "dict.items") hbase rfl hline F.plainAttrs_dict F.slot_dict_items F.type_dict_items (thn (he.run pins s σ H _ I h) fun u s1 ⟨x, H1, I1, rx, d, o, kvs, ex, hd, q⟩ => ?_)
  subst ex
  obtain rfl : u = Value.ref d := rx
  obtain ⟨hs, hgd, hx, es, ep, hdt, hsz, ent⟩ := frzT2 I1 hd
  have raw : DT.Raw s1.heap d es ep := ⟨o, hgd, hx, hdt⟩
  refine ⟨raw.typeIs, (fun a ea => by cases ea; exact ⟨o, hgd, hx.2.1⟩), ?_⟩
  have I2 : Inv X pins σ H1 { s1 with heap := s1.heap.push { cls := .type "dict_items", data := .fields #[.ref d] } } := I1.kept (t' := s1.toks) fun b ob q => Heap.get?_push_of_some _ q
  have fin : wpAny (model X.prog X.w) X.A (pyIter (.ref s1.heap.objs.size)) (PIE X pins σ (.Tuple elts kk tpos) R) X.xe { s1 with heap := s1.heap.push { cls := .type "dict_items", data := .fields #[.ref d] } } := by
    refine DT.iterI (d := d) (es := es) (ep := ep) ⟨_, Heap.get?_push_size _ rfl, rfl, rfl⟩ (raw.push _) (pi_one (tk := s1.toks) I2 _ (turn_itemsT _ hdt) ⟨.none, .none, ?_⟩ q)
    rw [hsz]
    exact Heap.get?_push_size _ rfl
  show wpAny _ _ (callWith cpos (.builtin "dict.items") [.ref d] [] []) _ X.xe s1
  exact method_meetsIn F.slot_dict_items F.entry_dict_items rfl (PySem.evalArgs_none ⟨rfl, raw.typeIs, F.args_dict_items_1 _, _, DT.meetsItems (es := es) (ep := ep) hs, ⟨raw, fin⟩⟩)
theorem walk_itemsT {d : Addr} {o : Obj} {kvs : List (List L2.Key × V)} : Walk (ItiT d o kvs) kvs.length (fun H => H d = some (.frz o (.dT kvs)))
    (fun i H x H' => ∃ (T : Addr) (k : List L2.Key) (v : V) (q : Addr), kvs[i]? = some (k, v) ∧ x = .ref T ∧ H q = some (.tup (k.map kV)) ∧ H T = none ∧ H' = upd H T (.tup [.ref q, v])) :=
  ⟨fun _ _ hi q => ⟨q, hi⟩, fun _ q => ⟨q, Nat.le_refl _⟩, fun _ _ _ _ _ _ y => y⟩
end Vx
namespace Vx
open PySem PySem.Spec PyProof.Rows L2
/-! ### bits of numbers from 0 on -/
theorem xor_and_add : ∀ a b : Nat, (a ^^^ b) + 2 * (a &&& b) = a + b := by
  intro a
  induction a using Nat.strongRecOn with
  | _ a ih =>
    intro b
    by_cases h : a = 0
    · subst h
      simp
    · have e := ih (a / 2) (by omega) (b / 2)
      have x1 : (a ^^^ b) / 2 = (a / 2) ^^^ (b / 2) := Nat.xor_div_two
      have x2 : (a &&& b) / 2 = (a / 2) &&& (b / 2) := Nat.and_div_two
      have t1 := Nat.testBit_xor a b 0
      have t2 := Nat.testBit_and a b 0
      rw [Nat.testBit_zero, Nat.testBit_zero, Nat.testBit_zero] at t1 t2
      have y1 : (a ^^^ b) % 2 = (a % 2 + b % 2) % 2 := by
        by_cases p : a % 2 = 1 <;> by_cases q : b % 2 = 1
        · rw [decide_eq_true p, decide_eq_true q] at t1
          have := of_decide_eq_false t1
          omega
        · rw [decide_eq_true p, decide_eq_false q] at t1
          have := of_decide_eq_true t1
          omega
        · rw [decide_eq_false p, decide_eq_true q] at t1
          have := of_decide_eq_true t1
          omega
        · rw [decide_eq_false p, decide_eq_false q] at t1
          have := of_decide_eq_false t1
          omega
      have y2 : (a &&& b) % 2 = if a % 2 = 1 ∧ b % 2 = 1 then 1 else 0 := by
        by_cases p : a % 2 = 1 <;> by_cases q : b % 2 = 1
        · rw [decide_eq_true p, decide_eq_true q] at t2
          rw [if_pos ⟨p, q⟩]
          exact of_decide_eq_true t2
        · rw [decide_eq_true p, decide_eq_false q] at t2
          rw [if_neg fun z => q z.2]
          have := of_decide_eq_false t2
          omega
        · rw [decide_eq_false p, decide_eq_true q] at t2
          rw [if_neg fun z => p z.1]
          have := of_decide_eq_false t2
          omega
        · rw [decide_eq_false p, decide_eq_false q] at t2
          rw [if_neg fun z => p z.1]
          have := of_decide_eq_false t2
          omega
      have z1 := Nat.div_add_mod (a ^^^ b) 2
      have z2 := Nat.div_add_mod (a &&& b) 2
      rw [x1, y1] at z1
      rw [x2, y2] at z2
      by_cases p : a % 2 = 1 ∧ b % 2 = 1
      · rw [if_pos p] at z2
        omega
      · rw [if_neg p] at z2
        omega
theorem or_and_xor (a b : Nat) : (a ||| b) = (a ^^^ b) + (a &&& b) := by
  have d : (a ^^^ b) &&& (a &&& b) = 0 := by
    refine Nat.eq_of_testBit_eq fun i => ?_
    simp only [Nat.testBit_and, Nat.testBit_xor, Nat.zero_testBit]
    cases a.testBit i <;> cases b.testBit i <;> rfl
  have e := xor_and_add (a ^^^ b) (a &&& b)
  rw [d] at e
  have f : (a ^^^ b) ^^^ (a &&& b) = a ||| b := by
    refine Nat.eq_of_testBit_eq fun i => ?_
    simp only [Nat.testBit_and, Nat.testBit_xor, Nat.testBit_or]
    cases a.testBit i <;> cases b.testBit i <;> rfl
  omega
theorem bAnd (a b : Nat) : Builtin.bitAnd (a : Int) (b : Int) = ((a &&& b : Nat) : Int) := PySem.W.os_band a b
theorem bOr (a b : Nat) : Builtin.bitOr (a : Int) (b : Int) = ((a ||| b : Nat) : Int) := by
  rw [bitOr_nn (Int.natCast_nonneg a) (Int.natCast_nonneg b), Int.toNat_natCast, Int.toNat_natCast]
theorem bXor (a b : Nat) : Builtin.bitXor (a : Int) (b : Int) = ((a ^^^ b : Nat) : Int) := by
  show Builtin.bitOr (a : Int) (b : Int) - Builtin.bitAnd (a : Int) (b : Int) = _
  rw [bAnd, bOr, or_and_xor]
  omega
section
variable {X : Cx}
theorem op_andNN : OpR X (binaryOp .BitAnd) (fun x y H Q => ∃ a b : Nat, x = .int (a : Int) ∧ y = .int (b : Int) ∧ Q (.int ((a &&& b : Nat) : Int)) H) := by
  intro pins s σ H x y v u Q I r1 r2 h
  obtain ⟨a, b, rfl, rfl, q⟩ := h
  exact op_and pins s σ H _ _ v u Q I r1 r2 ⟨_, _, rfl, rfl, (by show Q (V.int (Builtin.bitAnd (a : Int) (b : Int))) H; rw [bAnd]; exact q)⟩
theorem op_orNN : OpR X (binaryOp .BitOr) (fun x y H Q => ∃ a b : Nat, x = .int (a : Int) ∧ y = .int (b : Int) ∧ Q (.int ((a ||| b : Nat) : Int)) H) := by
  intro pins s σ H x y v u Q I r1 r2 h
  obtain ⟨a, b, rfl, rfl, q⟩ := h
  exact op_or pins s σ H _ _ v u Q I r1 r2 ⟨_, _, rfl, rfl, (by show Q (V.int (Builtin.bitOr (a : Int) (b : Int))) H; rw [bOr]; exact q)⟩
theorem op_xorNN : OpR X (binaryOp .BitXor) (fun x y H Q => ∃ a b : Nat, x = .int (a : Int) ∧ y = .int (b : Int) ∧ Q (.int ((a ^^^ b : Nat) : Int)) H) := by
  intro pins s σ H x y v u Q I r1 r2 h
  obtain ⟨a, b, rfl, rfl, q⟩ := h
  exact op_xor pins s σ H _ _ v u Q I r1 r2 ⟨_, _, rfl, rfl, (by show Q (V.int (Builtin.bitXor (a : Int) (b : Int))) H; rw [bXor]; exact q)⟩
theorem ip_orNN : PIp X .BitOr (fun x y H Q => ∃ a b : Nat, x = .int (a : Int) ∧ y = .int (b : Int) ∧ Q (.int ((a ||| b : Nat) : Int)) H) := by
  intro pins s σ H x y v u Q I r1 r2 h
  obtain ⟨a, b, rfl, rfl, q⟩ := h
  exact iop_or pins s σ H _ _ v u Q I r1 r2 ⟨_, _, rfl, rfl, (by show Q (V.int (Builtin.bitOr (a : Int) (b : Int))) H; rw [bOr]; exact q)⟩
theorem ip_xorNN : PIp X .BitXor (fun x y H Q => ∃ a b : Nat, x = .int (a : Int) ∧ y = .int (b : Int) ∧ Q (.int ((a ^^^ b : Nat) : Int)) H) := by
  intro pins s σ H x y v u Q I r1 r2 h
  obtain ⟨a, b, rfl, rfl, q⟩ := h
  exact iop_xor pins s σ H _ _ v u Q I r1 r2 ⟨_, _, rfl, rfl, (by show Q (V.int (Builtin.bitXor (a : Int) (b : Int))) H; rw [bXor]; exact q)⟩
theorem op_shrNN : OpR X (binaryOp .RShift) (fun x y H Q => ∃ a k : Nat, x = .int (a : Int) ∧ y = .int (k : Int) ∧ Q (.int ((a >>> k : Nat) : Int)) H) := by
  intro pins s σ H x y v u Q I r1 r2 h
  obtain ⟨a, k, rfl, rfl, q⟩ := h
  refine op_shrN pins s σ H _ _ v u Q I r1 r2 ⟨_, k, rfl, rfl, ?_⟩
  rw [show (a : Int) / 2 ^ k = ((a >>> k : Nat) : Int) by rw [Nat.shiftRight_eq_div_pow]; exact (by push_cast; rfl)]
  exact q
theorem op_shlNN : OpR X (binaryOp .LShift) (fun x y H Q => ∃ (a k n : Nat), x = .int (a : Int) ∧ y = .int (k : Int) ∧ a < 2 ^ n ∧ n + k ≤ 134217728 ∧ Q (.int ((a <<< k : Nat) : Int)) H) := by
  intro pins s σ H x y v u Q I r1 r2 h
  obtain ⟨a, k, n, rfl, rfl, la, lk, q⟩ := h
  refine op_shlN pins s σ H _ _ v u Q I r1 r2 ⟨_, k, rfl, rfl, shl_ok (n := n) la lk, ?_⟩
  rw [show (a : Int) * 2 ^ k = ((a <<< k : Nat) : Int) by rw [Nat.shiftLeft_eq]; exact (by push_cast; rfl)]
  exact q
end
/-! ### the bits that are set, ascending -/
def bitsB (N n : Nat) : List Nat := (List.range N).filter fun j => n.testBit j
theorem mem_bitsB {N n j : Nat} : j ∈ bitsB N n ↔ j < N ∧ n.testBit j = true := by
  unfold bitsB
  rw [List.mem_filter, List.mem_range]
theorem low_bit : ∀ n : Nat, n ≠ 0 → ∃ k a, n = 2 ^ k * (2 * a + 1) := by
  intro n
  induction n using Nat.strongRecOn with
  | _ n ih =>
    intro h
    by_cases e : n % 2 = 1
    · exact ⟨0, n / 2, by omega⟩
    · obtain ⟨k, a, q⟩ := ih (n / 2) (by omega) (by omega)
      refine ⟨k + 1, a, ?_⟩
      have : n = 2 * (n / 2) := by omega
      rw [this, q, Nat.pow_succ, Nat.mul_comm (2 ^ k) 2, Nat.mul_assoc]
theorem low_test {k a j : Nat} : (2 ^ k * (2 * a + 1)).testBit j = (decide (j = k) || (decide (k < j) && (2 ^ k * (2 * a)).testBit j)) := by
  rw [Nat.testBit_two_pow_mul, Nat.testBit_two_pow_mul]
  by_cases h : k ≤ j
  · by_cases e : j = k
    · subst e
      simp [Nat.testBit_zero]
    · have e2 : k < j := by omega
      have e3 : j - k = (j - k - 1) + 1 := by omega
      rw [e3, Nat.testBit_succ, Nat.testBit_succ]
      have e4 : (2 * a + 1) / 2 = 2 * a / 2 := by omega
      rw [e4]
      simp [h, e, e2]
  · have e : j ≠ k := by omega
    have e2 : ¬ k < j := by omega
    simp [h, e, e2]
theorem low_xor (k a : Nat) : 2 ^ k * (2 * a + 1) ^^^ 2 ^ k = 2 ^ k * (2 * a) := by
  refine Nat.eq_of_testBit_eq fun j => ?_
  rw [Nat.testBit_xor, low_test, Nat.testBit_two_pow]
  by_cases e : k = j
  · subst e
    simp [Nat.testBit_two_pow_mul, Nat.testBit_zero]
  · have e' : j ≠ k := fun z => e z.symm
    simp only [e, e', decide_false, Bool.false_or, Bool.xor_false]
    by_cases h : k < j
    · simp [h]
    · have : ¬ k ≤ j := by omega
      simp [h, this, Nat.testBit_two_pow_mul]
theorem bits_low {N k a : Nat} (h : 2 ^ k * (2 * a + 1) < 2 ^ N) : bitsB N (2 ^ k * (2 * a + 1)) = k :: bitsB N (2 ^ k * (2 * a)) := by
  have hk : k < N := by
    have : 2 ^ k < 2 ^ N := Nat.lt_of_le_of_lt (Nat.le_mul_of_pos_right _ (by omega)) h
    exact (Nat.pow_lt_pow_iff_right (by decide)).mp this
  have e : List.range N = List.range k ++ k :: (List.range (N - k - 1)).map (fun j => k + 1 + j) := by
    have e1 := List.range_add (n := k) (m := N - k)
    rw [show k + (N - k) = N by omega] at e1
    rw [e1, show N - k = (N - k - 1) + 1 by omega, List.range_succ_eq_map, List.map_cons, List.map_map]
    simp
    intro j _
    omega
  have z : ∀ m, (List.range k).filter (fun j => (2 ^ k * m).testBit j) = [] := fun m => by
    refine List.filter_eq_nil_iff.mpr fun j hj => ?_
    have := List.mem_range.mp hj
    rw [Nat.testBit_two_pow_mul]
    have : ¬ k ≤ j := by omega
    simp [this]
  unfold bitsB
  rw [e, List.filter_append, List.filter_append, z, z, List.nil_append, List.nil_append, List.filter_cons, List.filter_cons]
  rw [if_pos (by rw [low_test]; simp), if_neg (by rw [Nat.testBit_two_pow_mul]; simp [Nat.testBit_zero])]
  refine congrArg _ (List.filter_congr fun j hj => ?_)
  obtain ⟨i, _, rfl⟩ := List.mem_map.mp hj
  rw [low_test]
  have e1 : ¬ k + 1 + i = k := by omega
  have e2 : k < k + 1 + i := by omega
  simp [e1, e2]
theorem bits_zero (N : Nat) : bitsB N 0 = [] := by
  unfold bitsB
  exact List.filter_eq_nil_iff.mpr fun j _ => by simp
theorem low_and (k a : Nat) : Builtin.bitAnd ((2 ^ k * (2 * a + 1) : Nat) : Int) (-((2 ^ k * (2 * a + 1) : Nat) : Int)) = ((2 ^ k : Nat) : Int) := by
  have e := PySem.W.kbt_low k (a : Int)
  push_cast
  exact e
theorem intBits_pow (k : Nat) : Builtin.Int.intBits ((2 ^ k : Nat) : Int) = k + 1 := by
  unfold Builtin.Int.intBits
  have h : ¬ ((((2 ^ k : Nat) : Int)) == 0) = true := by
    have : 0 < 2 ^ k := Nat.two_pow_pos k
    simp only [beq_iff_eq]
    omega
  rw [if_neg h, Int.natAbs_natCast, Nat.log2_two_pow]
end Vx
namespace Vx
open PySem PySem.Spec PyProof.Rows L2
/-! ### dicts whose keys are pairs, told by the list of the keys and a function -/
def MapP (kvs : List (List L2.Key × V)) (ps : List Pr) (g : Pr → V) : Prop := kvs = ps.map (fun x => (keyP x, g x)) ∧ ps.Nodup
def addK (ps : List Pr) (x : Pr) : List Pr := if x ∈ ps then ps else ps ++ [x]
def setG (g : Pr → V) (x : Pr) (v : V) : Pr → V := fun y => if y = x then v else g y
theorem mem_addK {ps : List Pr} {x y : Pr} : y ∈ addK ps x ↔ y ∈ ps ∨ y = x := by
  unfold addK
  by_cases h : x ∈ ps
  · rw [if_pos h]
    exact ⟨.inl, fun q => q.elim id fun e => e ▸ h⟩
  · rw [if_neg h, List.mem_append, List.mem_singleton]
theorem addK_len {ps : List Pr} {x : Pr} : (addK ps x).length ≤ ps.length + 1 := by
  unfold addK
  by_cases h : x ∈ ps
  · rw [if_pos h]
    omega
  · rw [if_neg h, List.length_append]
    exact Nat.le_refl _
theorem addK_new {ps : List Pr} {x : Pr} (h : x ∉ ps) : addK ps x = ps ++ [x] := if_neg h
theorem addK_old {ps : List Pr} {x : Pr} (h : x ∈ ps) : addK ps x = ps := if_pos h
theorem MapP.nil (g : Pr → V) : MapP [] [] g := ⟨rfl, List.nodup_nil⟩
theorem MapP.keys {kvs : List (List L2.Key × V)} {ps : List Pr} {g : Pr → V} (h : MapP kvs ps g) : KeysP kvs ps := by
  refine ⟨?_, h.2⟩
  rw [h.1, List.map_map]
  rfl
theorem MapP.len {kvs : List (List L2.Key × V)} {ps : List Pr} {g : Pr → V} (h : MapP kvs ps g) : kvs.length = ps.length := by rw [h.1, List.length_map]
theorem MapP.congr {kvs : List (List L2.Key × V)} {ps : List Pr} {g g' : Pr → V} (h : MapP kvs ps g) (e : ∀ x ∈ ps, g x = g' x) : MapP kvs ps g' := by
  refine ⟨?_, h.2⟩
  rw [h.1]
  exact List.map_congr_left fun x m => by rw [e x m]
theorem MapP.at {kvs : List (List L2.Key × V)} {ps : List Pr} {g : Pr → V} (h : MapP kvs ps g) {i : Nat} {k : List L2.Key} {v : V} (e : kvs[i]? = some (k, v)) : ∃ x, ps[i]? = some x ∧ k = keyP x ∧ v = g x := by
  rw [h.1, List.getElem?_map] at e
  cases q : ps[i]? with
  | none => rw [q] at e; cases e
  | some x =>
    rw [q] at e
    injection e with e
    injection e with e1 e2
    exact ⟨x, rfl, e1.symm, e2.symm⟩
theorem MapP.get {kvs : List (List L2.Key × V)} {ps : List Pr} {g : Pr → V} (h : MapP kvs ps g) (x : Pr) : valV kvs (keyP x) = if x ∈ ps then some (g x) else none := by
  rw [h.1]
  have go : ∀ qs : List Pr, valV (qs.map fun x => (keyP x, g x)) (keyP x) = if x ∈ qs then some (g x) else none := fun qs => by
    induction qs with
    | nil => rfl
    | cons y qs ih =>
      rw [List.map_cons]
      by_cases e : y = x
      · subst e
        rw [valV_pos rfl, if_pos List.mem_cons_self]
      · rw [valV_neg (fun z => e (keyP_inj z)), ih]
        have e' : ¬ x = y := fun z => e z.symm
        by_cases m : x ∈ qs <;> simp [m, e']
  exact go ps
theorem MapP.put {kvs : List (List L2.Key × V)} {ps : List Pr} {g : Pr → V} (h : MapP kvs ps g) (x : Pr) (v : V) : MapP (putK kvs (keyP x) v) (addK ps x) (setG g x v) := by
  have any : (kvs.any fun kv => decide (kv.1 = keyP x)) = decide (x ∈ ps) := by
    rw [valV_any, h.get]
    by_cases m : x ∈ ps <;> simp [m]
  unfold putK
  rw [any]
  by_cases m : x ∈ ps
  · rw [if_pos (decide_eq_true m), addK_old m]
    refine ⟨?_, h.2⟩
    rw [h.1, List.map_map]
    refine List.map_congr_left fun y _ => ?_
    show (if keyP y = keyP x then (keyP y, v) else (keyP y, g y)) = (keyP y, if y = x then v else g y)
    by_cases e : y = x
    · rw [if_pos (by rw [e]), if_pos e]
    · rw [if_neg fun z => e (keyP_inj z), if_neg e]
  · rw [if_neg (by simp [m]), addK_new m]
    refine ⟨?_, ?_⟩
    · rw [h.1, List.map_append]
      congr 1
      · refine List.map_congr_left fun y my => ?_
        have e : ¬ y = x := fun e => m (e ▸ my)
        show (keyP y, g y) = (keyP y, if y = x then v else g y)
        rw [if_neg e]
      · show [(keyP x, v)] = [(keyP x, if x = x then v else g x)]
        rw [if_pos rfl]
    · refine List.pairwise_append.mpr ⟨h.2, List.pairwise_cons.mpr ⟨fun _ m => (by cases m), List.Pairwise.nil⟩, fun a ma b mb e => ?_⟩
      rw [List.mem_singleton.mp mb] at e
      exact m (e ▸ ma)
theorem MapP.drop {kvs : List (List L2.Key × V)} {ps : List Pr} {g : Pr → V} (h : MapP kvs ps g) (x : Pr) : MapP (dropK kvs (keyP x)) (ps.filter fun y => decide (y ≠ x)) g := by
  refine ⟨?_, h.2.filter _⟩
  unfold dropK
  rw [h.1, List.filter_map]
  congr 1
  refine List.filter_congr fun y _ => ?_
  show decide (keyP y ≠ keyP x) = decide (y ≠ x)
  by_cases e : y = x
  · simp [e]
  · have : keyP y ≠ keyP x := fun z => e (keyP_inj z)
    simp [e, this]
/-- at d: such a dict -/
def Dct (H : Hp) (d : Addr) (ps : List Pr) (g : Pr → V) : Prop := ∃ kvs, H d = some (.dT kvs) ∧ MapP kvs ps g
theorem Dct.up {H H' : Hp} {d : Addr} {ps : List Pr} {g : Pr → V} (e : Same H H') (h : Dct H d ps g) : Dct H' d ps g := by
  obtain ⟨kvs, h1, h2⟩ := h
  exact ⟨kvs, e _ _ h1, h2⟩
theorem Dct.new {H : Hp} {d : Addr} (g : Pr → V) (h : H d = some (.dT [])) : Dct H d [] g := ⟨[], h, .nil g⟩
theorem Dct.ne {H : Hp} {d p : Addr} {ps : List Pr} {g : Pr → V} (h : Dct H d ps g) (n : H p = none) : p ≠ d := fun e => by
  obtain ⟨kvs, h1, _⟩ := h
  rw [e, h1] at n
  cases n
theorem Dct.isD {H : Hp} {d : Addr} {ps : List Pr} {g : Pr → V} (h : Dct H d ps g) : IsD H d := by
  obtain ⟨kvs, h1, _⟩ := h
  exact .inr ⟨kvs, .inl h1⟩
theorem Dct.dget {H : Hp} {d b : Addr} {ps : List Pr} {g : Pr → V} {x : Pr} (h : Dct H d ps g) (e : H b = some (.tup [.int x.1, .int x.2])) : DGet H d (.ref b) (if x ∈ ps then some (g x) else none) := by
  obtain ⟨kvs, h1, h2⟩ := h
  rw [← h2.get x]
  exact .t (k := keyP x) h1 e
/-- the answer of d.get(x, z) -/
def orG (ps : List Pr) (g : Pr → V) (z : V) (x : Pr) : V := if x ∈ ps then g x else z
theorem getD_or {ps : List Pr} {g : Pr → V} {z : V} {x : Pr} : (if x ∈ ps then some (g x) else none : Option V).getD z = orG ps g z x := by
  unfold orG
  by_cases h : x ∈ ps <;> simp [h]
/-- what stands elsewhere stays, d's dict grows -/
def PutAt (H : Hp) (d : Addr) (ps : List Pr) (g : Pr → V) (x : Pr) (v : V) (H' : Hp) : Prop := Dct H' d (addK ps x) (setG g x v) ∧ ∀ b, b ≠ d → H' b = H b
theorem Dct.dput {H : Hp} {d b : Addr} {ps : List Pr} {g : Pr → V} {x : Pr} (h : Dct H d ps g) (few : ps.length < sizeLine) (e : H b = some (.tup [.int x.1, .int x.2])) (v : V) : ∃ H', DPut H d (.ref b) v H' ∧ PutAt H d ps g x v H' := by
  obtain ⟨kvs, h1, h2⟩ := h
  exact ⟨_, .t (k := keyP x) h1 e (by rw [h2.len]; exact few), ⟨_, upd_same, h2.put x v⟩, fun b n => upd_ne n⟩
theorem PutAt.mut {H0 H H' : Hp} {d : Addr} {ps : List Pr} {g : Pr → V} {x : Pr} {v : V} (p : PutAt H d ps g x v H') (sm : Same H0 H) (n : H0 d = none) : Same H0 H' := fun b o e => by
  rw [p.2 b fun z => by rw [z, n] at e; cases e]
  exact sm b o e
theorem Dct.congr {H : Hp} {d : Addr} {ps : List Pr} {g g' : Pr → V} (h : Dct H d ps g) (e : ∀ x ∈ ps, g x = g' x) : Dct H d ps g' := by
  obtain ⟨kvs, h1, h2⟩ := h
  exact ⟨kvs, h1, h2.congr e⟩
theorem updS {H H' : Hp} {d : Addr} {o : HO} (e : Same H H') : Same (upd H d o) (upd H' d o) := fun b u h => by
  by_cases c : b = d
  · rw [c, upd_same] at h
    rw [c, upd_same]
    exact h
  · rw [upd_ne c] at h
    rw [upd_ne c]
    exact e b u h
theorem Dct.off {H : Hp} {d e : Addr} {ps : List Pr} {g : Pr → V} {o : HO} (h : Dct H d ps g) (n : d ≠ e) : Dct (upd H e o) d ps g := by
  obtain ⟨kvs, h1, h2⟩ := h
  exact ⟨kvs, by rw [upd_ne n]; exact h1, h2⟩
theorem nodup_next {α : Type} {ps : List α} {i : Nat} {x : α} (nd : ps.Nodup) (h : ps[i]? = some x) : x ∉ ps.take i := fun m => by
  obtain ⟨j, hj, e⟩ := List.getElem_of_mem m
  rw [List.length_take] at hj
  obtain ⟨li, ei⟩ := List.getElem?_eq_some_iff.mp h
  rw [List.getElem_take] at e
  have := (List.getElem_inj nd (h₀ := by omega) (h₁ := li)).mp (e.trans ei.symm)
  omega
theorem addK_take {ps : List Pr} {i : Nat} {x : Pr} (nd : ps.Nodup) (h : ps[i]? = some x) : addK (ps.take i) x = ps.take (i + 1) := by
  rw [addK_new (nodup_next nd h), take_next h]
theorem unlock {H H' : Hp} {d : Addr} {od : Obj} {u : HO} (hd : H d = some u) (sm : Same (upd H d (.frz od u)) H') : Same H (upd H' d u) := fun b o e => by
  by_cases c : b = d
  · rw [c] at e ⊢
    rw [hd] at e
    rw [upd_same]
    exact e
  · rw [upd_ne c]
    exact sm b o (by rw [upd_ne c]; exact e)
/-! ### the program's lists of such keys -/
theorem isKeys_cells {H : Hp} {p : Addr} : ∀ {kvs : List (List L2.Key × V)} {ps : List Pr} {g : Pr → V} {bs : List Addr}, MapP kvs ps g → IsKeys H kvs bs → H p = some (.lst (bs.map V.ref)) → Cells H p ps := by
  have go : ∀ (ps : List Pr) (g : Pr → V) (bs : List Addr), IsKeys H (ps.map fun x => (keyP x, g x)) bs → ∃ ts : List (Addr × Pr), bs.map V.ref = ts.map (fun t => V.ref t.1) ∧ (∀ t ∈ ts, H t.1 = some (.tup [.int t.2.1, .int t.2.2])) ∧ ts.map (·.2) = ps := by
    intro ps g
    induction ps with
    | nil =>
      intro bs h
      cases h
      exact ⟨[], rfl, fun _ m => (by cases m), rfl⟩
    | cons x ps ih =>
      intro bs h
      cases h with
      | @cons _ b _ bs h1 h2 =>
        obtain ⟨ts, a1, a2, a3⟩ := ih bs h2
        refine ⟨(b, x) :: ts, ?_, ?_, ?_⟩
        · rw [List.map_cons, List.map_cons, a1]
        · intro t m
          rcases List.mem_cons.mp m with e | m
          · rw [e]
            exact h1
          · exact a2 t m
        · rw [List.map_cons, a3]
  intro kvs ps g bs h k e
  rw [h.1] at k
  obtain ⟨ts, a1, a2, a3⟩ := go ps g bs k
  exact ⟨ts, by rw [e, a1], a2, a3⟩
theorem cr_listP {X : Cx} (hc : X.calm = true) : CallR X (.type "list") (fun xs H Q => ∃ d ps g, xs = [V.ref d] ∧ Dct H d ps g ∧ ∀ H' p, Same H H' → H p = none → Cells H' p ps → Q (.ref p) H') := by
  intro pins s σ H xs us Q I r h
  obtain ⟨d, ps, g, rfl, ⟨kvs, h1, h2⟩, q⟩ := h
  refine call_list_dT hc pins s σ H _ us Q I r ⟨d, kvs, rfl, .inl h1, fun p bs n k => q _ p (newS n) n ?_⟩
  refine isKeys_cells (bs := bs) h2 ?_ upd_same
  exact Paired.mapP k fun a b e => newS n _ _ e
theorem truC {K : PySem.W.Frag} {H : Hp} {l : Addr} {ps : List Pr} (h : Cells H l ps) : TruV K (.ref l) H (!ps.isEmpty) := by
  obtain ⟨ts, h1, _, rfl⟩ := h
  exact .inl ⟨_, lst_of h1, by cases ts <;> rfl⟩
/-- sorted(d) -/
theorem cr_sortedDT {X : Cx} (hcalm : X.calm = true) : CallR X (.builtin "sorted") (fun xs H Q => ∃ d ps g, xs = [V.ref d] ∧ Dct H d ps g ∧ ∀ p H' qs, Same H H' → H p = none → Cells H' p qs → CanP ps qs → qs.length = ps.length → Q (.ref p) H') := by
  intro pins s σ H xs us Q I r h
  obtain ⟨d, ps, g, rfl, ⟨kvs, hd, hm⟩, q⟩ := h
  obtain ⟨u, rfl, rx⟩ := r.one
  cases rx
  obtain ⟨z, hs, ks, prd, o, es, ep, ho, hx, hdt, he, hn⟩ := (show ObjOk X.prog X.w H s.heap d (.dT kvs) from (Rd.of hd).ok I.hok)
  have l1 : es.size = ks.length := size_of_entries he
  have l2 : kvs.length = ks.length := Paired.length prd
  have lim : es.size ≤ sizeLine := by omega
  refine Calls.call_function_entry kind_sorted plain_sorted entry_sorted (args_sorted1 _) ?_
  unfold Builtin.«sorted»
  refine wpAny_bind (m := checkCount "sorted" 1 1 _) (wpAny_pure ?_)
  refine wpAny_bind (PySem.W.kdu_collect (A := X.A.in1) (kdl_raw hs hx hdt) (I.ok.hd hcalm) ho lim fun h' tk acc kp it => ?_)
  -- the key tuples
  have keyAt : ∀ (i : Nat) (x : Pr), ps[i]? = some x → ∃ b, acc.toList[i]? = some (.ref b) ∧ H b = some (.tup [.int x.1, .int x.2]) := fun i x e => by
    have e1 : kvs[i]? = some (keyP x, g x) := by rw [hm.1, List.getElem?_map, e]; rfl
    obtain ⟨b, hb, _, e2, _⟩ := paired_get prd e1
    have q1 := entry_at he i
    rw [hb] at q1
    have li : i < acc.toList.length := by
      rw [Array.length_toList, it.1, l1]
      exact (List.getElem?_eq_some_iff.mp hb).1
    obtain ⟨en, q2, q3⟩ := it.2 i acc.toList[i] (by rw [← Array.getElem?_toList]; exact List.getElem?_eq_getElem li)
    rw [q1] at q2
    have q4 : entryOfKey (tupleKind (mixKind X.prog X.w)) b = en := Option.some.inj q2
    refine ⟨b.2.1, ?_, e2⟩
    rw [List.getElem?_eq_getElem li, q3, ← q4]
    rfl
  have al : acc.toList.length = ps.length := by rw [Array.length_toList, it.1, l1, ← l2, hm.len]
  have lacc : acc.toList.length ≤ sizeLine := by rw [Array.length_toList, it.1]; exact lim
  have I1 : Inv X pins σ H { s with heap := h', toks := tk } := I.kept kp
  refine wpAny_bind (wpAny_newList ?_ lacc)
  have gl : (h'.push (seqObj "list" acc.toList.toArray 0)).get? h'.objs.size = some (seqObj "list" acc.toList.toArray 0) := Heap.get?_push_size _ rfl
  show wpAny _ _ _ _ _ { s with heap := h'.push (seqObj "list" acc.toList.toArray 0), toks := tk }
  generalize hh1 : h'.push (seqObj "list" acc.toList.toArray 0) = h1 at gl ⊢
  generalize acc.toList = vs at *
  have keep1 : ∀ b u, h'.get? b = some u → h1.get? b = some u := fun b u e => by
    rw [← hh1]
    exact Heap.get?_push_of_some _ e
  have own : ∀ v ∈ vs, ∃ b x, v = .ref b ∧ H b = some (.tup [.int x.1, .int x.2]) ∧ (x : Pr) ∈ ps := fun v m => by
    obtain ⟨i, li, e⟩ := List.getElem_of_mem m
    have lp : i < ps.length := by omega
    obtain ⟨b, e1, e2⟩ := keyAt i ps[i] (List.getElem?_eq_getElem lp)
    rw [List.getElem?_eq_getElem li] at e1
    exact ⟨b, ps[i], by rw [← e]; exact Option.some.inj e1, e2, List.getElem_mem lp⟩
  have tin : ∀ b (x : Pr), H b = some (.tup [.int x.1, .int x.2]) → TS.TupInts h1 (.ref b) [x.1, x.2] := fun b x e => tupInts_of (P := X.prog) (w := X.w) (isT_keep (Inv.isT (k := [x.1, x.2]) I1 (tup_of e)) keep1)
  have key : ∀ b (x : Pr), H b = some (.tup [.int x.1, .int x.2]) → pr (TS.intsOf h1 (.ref b)) = x := fun b x e => by
    rw [(tin b x e).ints]
    rfl
  have isP : ∀ v ∈ vs, Srt.IsPair h1 v (pr (TS.intsOf h1 v)).1 (pr (TS.intsOf h1 v)).2 := fun v m => by
    obtain ⟨b, x, rfl, e, _⟩ := own v m
    rw [key b x e]
    have i := tin b x e
    obtain ⟨b2, items, eb, ⟨o1, go1, co1, n1, do1⟩, ia⟩ := i
    cases eb
    obtain ⟨xs⟩ := items
    cases ia with
    | cons _ t1 ia =>
      cases ia with
      | cons _ t2 ia =>
        cases ia
        exact ⟨_, o1, t1, t2, n1, rfl, go1, co1, do1⟩
  have mapK : vs.map (fun v => pr (TS.intsOf h1 v)) = ps := by
    refine List.ext_getElem? fun i => ?_
    rw [List.getElem?_map]
    by_cases li : i < ps.length
    · obtain ⟨b, e1, e2⟩ := keyAt i ps[i] (List.getElem?_eq_getElem li)
      rw [e1, List.getElem?_eq_getElem li]
      exact congrArg some (key b _ e2)
    · rw [List.getElem?_eq_none (by omega), List.getElem?_eq_none (by omega)]
      rfl
  refine wpAny_bind (wpAny_holding (wpAny_call_entry (s := { s with heap := h1, toks := tk }) slot_list_sort ⟨_, gl, rfl⟩ entry_list_sort (SrtO.list_sort_ord (s := { s with heap := h1, toks := tk }) (SrtO.swo_lex fun v => pr (TS.intsOf h1 v)) gl lacc (fun two => SrtO.pairs_sortableO (by omega) isP fun o1 e => ?_) fun out srt stb => ⟨_, rfl, ?_⟩) (args_list_sort _)))
  · have e' : some o1 = some (seqObj "list" vs.toArray 0) := e.symm.trans gl
    cases e'
    intro c
    exact absurd (Value.type.inj c) (by decide)
  · obtain ⟨c, gc⟩ := sortedHeap_at (vs := vs) (out := out.toArray) gl
    have oown : ∀ v ∈ out, ∃ b x, v = Value.ref b ∧ H b = some (.tup [.int x.1, .int x.2]) ∧ (x : Pr) ∈ ps := fun v m => own v (stb.perm.mem_iff.mp m)
    have keepAll : ∀ b u, h'.get? b = some u → (sortedHeap h1 h'.objs.size vs out.toArray).get? b = some u := fun b u g1 => by
      have lt1 := Heap.lt_size g1
      rw [sortedHeap_old (Nat.ne_of_lt lt1) (Heap.lt_size (keep1 b u g1))]
      exact keep1 b u g1
    have nF : H h'.objs.size = none := I1.hok.fresh (Nat.le_refl _)
    let ts : List (Addr × Pr) := out.map fun v => (adr v, pr (TS.intsOf h1 v))
    have eo : ts.map (fun t => Value.ref t.1) = out := by
      rw [List.map_map]
      refine (List.map_congr_left fun v m => ?_).trans (List.map_id _)
      obtain ⟨b, x, rfl, _⟩ := oown v m
      rfl
    have vals : ∀ ts : List (Addr × Pr), Vals (ts.map fun q => V.ref q.1) (ts.map fun q => Value.ref q.1) := fun ts => by
      induction ts with
      | nil => exact .nil
      | cons t ts ih => exact .cons rfl ih
    have lo : ts.length ≤ sizeLine := by
      rw [List.length_map, stb.perm.length_eq]
      exact lacc
    have new : ObjOk X.prog X.w (upd H h'.objs.size (.lst (ts.map fun q => V.ref q.1))) (sortedHeap h1 h'.objs.size vs out.toArray) h'.objs.size (.lst (ts.map fun q => V.ref q.1)) := by
      refine ⟨by rw [List.length_map]; exact lo, ts.map fun q => Value.ref q.1, c, vals ts, ?_⟩
      rw [eo]
      exact gc
    have J := I1.laid (t' := tk) keepAll (Nat.le_refl _) new
    have pmk : (ts.map (·.2)).Perm ps := by
      rw [List.map_map, ← mapK]
      exact stb.perm.map fun v => pr (TS.intsOf h1 v)
    refine wpAny_pure ⟨_, rfl, .ref h'.objs.size, _, J, rfl, q _ _ (ts.map (·.2)) (newS nF) nF ⟨ts, upd_same, fun t m => ?_, rfl⟩ ⟨?_, fun x => pmk.mem_iff⟩ pmk.length_eq⟩
    · obtain ⟨v, m1, rfl⟩ := List.mem_map.mp m
      obtain ⟨b, x, rfl, e, _⟩ := oown v m1
      refine newS nF _ _ ?_
      show H b = some (.tup [.int (pr (TS.intsOf h1 (.ref b))).1, .int (pr (TS.intsOf h1 (.ref b))).2])
      rw [key b x e]
      exact e
    · have nd : (ts.map (·.2)).Nodup := pmk.nodup_iff.mpr hm.2
      rw [List.map_map] at nd ⊢
      refine List.pairwise_map.mpr ((srt.and (List.pairwise_map.mp nd)).imp fun {u v} h => ?_)
      have a1 := SrtO.lexB_no.mp h.1
      have a2 : ¬ ((pr (TS.intsOf h1 u)).1 = (pr (TS.intsOf h1 v)).1 ∧ (pr (TS.intsOf h1 u)).2 = (pr (TS.intsOf h1 v)).2) := fun e => h.2 (Prod.ext e.1 e.2)
      refine ltP_iff.mpr ?_
      show (pr (TS.intsOf h1 u)).1 < (pr (TS.intsOf h1 v)).1 ∨ (pr (TS.intsOf h1 u)).1 = (pr (TS.intsOf h1 v)).1 ∧ (pr (TS.intsOf h1 u)).2 < (pr (TS.intsOf h1 v)).2
      omega
end Vx
namespace Vx
open PySem PySem.Spec PyProof.Rows L2
/-! ### a number in binary digits -/
def binL (n : Nat) : List Nat := (Nat.toDigits 2 n).map Char.toNat
def binT (n : Nat) : Str := ⟨(binL n).toArray⟩
section
open PySem.Builtin PySem.Builtin.Int PySem.Builtin.Float
variable {prog : Program} {w : World} {A : Around} {E : Value → Shared → Prop} {s : Shared} {t : Tok}
def fB : FormatSpec := { align := 62, type := some 98 }
theorem parse_b : parseFormatSpec (Str.ofString "b").cps.toList "int" 62 = .ok fB := by rfl
theorem field_b {n : Nat} {Q : Value → Shared → Prop} (hl : (binT n).length ≤ sizeLine) (h : ∀ t' k, Q (.str (binT n) t') { s with toks := k }) : wpAny (model prog w) A (formatField (.int (n : Int) t) (Str.ofString "b")) Q E s := by
  refine PySem.W.KXf.field_int (spec' := Str.ofString "b") (y := binT n) rfl (by decide +kernel) (by decide +kernel) (fun u => ?_) h
  apply PySem.W.KPc.meets_of
  intro prog w A s P E k
  unfold Builtin.«int.__format__»
  have hne : ((Str.ofString "b").length == 0) = false := by decide +kernel
  have hasc : (((Str.ofString "b").cps.toList.drop 1).any (· ≥ 128) || ((Str.ofString "b").cps.getD 0 0 ≥ 128 && !([60, 62, 61, 94] : List Nat).contains ((Str.ofString "b").cps.getD 1 0))) = false := by decide +kernel
  simp only [selfAndOne, noKeywords, Int.intOfSelf, asInt?, asStr?, List.isEmpty_nil, if_true, pure_bind, bind_pure, bind_assoc, hne, hasc, Bool.false_eq_true, if_false,
    show (Value.str (Str.ofString "b") u == Value.none) = false from rfl]
  refine wpAny_bind (wpAny_typeNameOf (T := "str") (typeIs_str _ _ _) (by decide) fun _ => ?_)
  refine wpAny_bind (wpAny_typeNameOfCut_int ?_)
  simp only [parse_b]
  rw [if_pos (by decide +kernel)]
  have ne : Nat.toDigits 2 n ≠ [] := Nat.toDigits_ne_nil
  have main : intField' fB (decide ((n : Int) < 0)) [] ((Nat.toDigits 2 ((n : Int)).natAbs).map Char.toNat) [] 4 = binT n := by
    rw [decide_eq_false (show ¬ (n : Int) < 0 by omega), Int.natAbs_natCast]
    unfold binT binL
    cases hd : Nat.toDigits 2 n with
    | nil => exact absurd hd ne
    | cons c cs =>
      have go : ∀ L : List Nat, L.isEmpty = false → intField' fB false [] L [] 4 = ⟨L.toArray⟩ := fun L hL => by
        unfold intField'
        rw [hL]
        show (⟨(List.replicate (((-1 : Int) - (0 + 0 + 0) - ((List.replicate ((0 : Int).toNat - L.length) 48 ++ L).length : Int)).toNat) 32 ++ [] ++ [] ++ List.replicate 0 32 ++ (List.replicate ((0 : Int).toNat - L.length) 48 ++ L) ++ [] ++ List.replicate 0 32).toArray⟩ : Str) = ⟨L.toArray⟩
        have r0 : (0 : Int).toNat - L.length = 0 := Nat.zero_sub _
        have r1 : ((-1 : Int) - (((0 : Nat) : Int) + ((0 : Nat) : Int) + ((0 : Nat) : Int)) - (L.length : Int)).toNat = 0 := by omega
        rw [r0, List.replicate_zero, List.replicate_zero, List.nil_append, r1]
        simp
      exact go _ rfl
  show wpAny (model prog w) A (retStr _) P E s
  refine PySem.W.KXf.ret_text (T := binT n) ?_ ?_ k
  · exact main
  · refine Nat.le_trans (Nat.le_of_eq ?_) hl
    exact congrArg Str.length main
end
section
variable {X : Cx}
/-- f"{n:b}" -/
theorem pe_fmtB {e spec : Expr} {te : TE} {pos : Pos} (he : PE X e te) (hs : PE X spec (tC (.str (Str.ofString "b")))) : PE X (.FormattedValue e (-1) (some spec) pos) (fun σ H Q => te σ H fun x H1 => ∃ n : Nat, x = .int (n : Int) ∧ (binT n).length ≤ sizeLine ∧ Q (.str (binT n)) H1) := by
  refine ⟨fun pins s σ H Q I h => ?_⟩
  refine wpAny_FormattedValue_spec (thn (he.run pins s σ H _ I h) fun v s1 hv => ?_)
  obtain ⟨x, H1, I1, r1, n, rfl, hl, q⟩ := hv
  obtain ⟨t, rfl⟩ := r1
  refine thn (hs.run pins s1 σ H1 (fun y H2 => y = .str (Str.ofString "b") ∧ Q (.str (binT n)) H2) I1 ⟨rfl, q⟩) fun r s2 hr => ?_
  obtain ⟨y, H2, I2, r2, rfl, q2⟩ := hr
  obtain ⟨t2, rfl⟩ := r2
  exact ⟨_, _, rfl, field_b hl fun t' k => ⟨.str (binT n), H2, I2.tok k, ⟨_, rfl⟩, q2⟩⟩
end
theorem cnt_nat (c : Nat) : ∀ l : List Nat, cnt c l = ((l.count c : Nat) : Int)
  | [] => by rfl
  | x :: l => by
    have ih : countIn (.str ⟨#[c]⟩) (l.map fun n => PyData.str ⟨#[n]⟩) = _ := cnt_nat c l
    show (if same (PyData.str ⟨#[x]⟩) (.str ⟨#[c]⟩) = true then 1 else 0) + countIn (.str ⟨#[c]⟩) (l.map fun n => PyData.str ⟨#[n]⟩) = _
    rw [ih, List.count_cons]
    have e : same (PyData.str ⟨#[x]⟩) (PyData.str ⟨#[c]⟩) = (x == c) := by
      show ((⟨#[x]⟩ : Str) == ⟨#[c]⟩) = _
      by_cases h : x = c
      · subst h
        simp
      · have h2 : ((⟨#[x]⟩ : Str) == ⟨#[c]⟩) = false := beq_eq_false_iff_ne.mpr fun z => h (by injection z with z; injection z with z; injection z with z)
        rw [h2]
        exact (beq_eq_false_iff_ne.mpr h).symm
    rw [e]
    by_cases h : (x == c) = true
    · rw [if_pos h, if_pos h]
      omega
    · rw [if_neg h, if_neg h]
      omega
theorem bitsB_half (N n : Nat) : (bitsB (N + 1) n).length = n % 2 + (bitsB N (n / 2)).length := by
  unfold bitsB
  have e : ((fun j => n.testBit j) ∘ Nat.succ) = fun j => (n / 2).testBit j := funext fun j => Nat.testBit_succ n j
  rw [List.range_succ_eq_map, List.filter_cons, List.filter_map, e, Nat.testBit_zero]
  by_cases h : n % 2 = 1
  · rw [if_pos (decide_eq_true h), List.length_cons, List.length_map]
    omega
  · rw [if_neg (by simpa using h), List.length_map]
    omega
theorem binL_big {n : Nat} (h : 2 ≤ n) : binL n = binL (n / 2) ++ [n % 2 + 48] := by
  unfold binL
  rw [Nat.toDigits_of_base_le (by decide) h, List.map_append]
  congr 1
  have : n % 2 < 2 := Nat.mod_lt _ (by decide)
  rcases (show n % 2 = 0 ∨ n % 2 = 1 by omega) with e | e <;> rw [e] <;> rfl
theorem binL_small {n : Nat} (h : n < 2) : binL n = [n + 48] := by
  unfold binL
  rw [Nat.toDigits_of_lt_base h]
  rcases (show n = 0 ∨ n = 1 by omega) with e | e <;> rw [e] <;> rfl
/-- so many ones as there are bits -/
theorem ones_bits : ∀ (N n : Nat), n < 2 ^ N → (binL n).count 49 = (bitsB N n).length
  | 0, n, h => by
    have : n = 0 := by simpa using h
    subst this
    rw [binL_small (by decide), bits_zero]
    rfl
  | N + 1, n, h => by
    rw [bitsB_half]
    have h2 : n / 2 < 2 ^ N := by
      rw [Nat.pow_succ] at h
      omega
    by_cases b : 2 ≤ n
    · rw [binL_big b, List.count_append, ones_bits N (n / 2) h2, List.count_singleton]
      rcases (show n % 2 = 0 ∨ n % 2 = 1 by omega) with e | e <;> rw [e] <;> simp <;> omega
    · rw [binL_small (by omega), show n / 2 = 0 by omega, bits_zero]
      rcases (show n = 0 ∨ n = 1 by omega) with e | e <;> subst e <;> rfl
theorem bin_len : ∀ (N n : Nat), n < 2 ^ N → (binL n).length ≤ N + 1
  | 0, n, h => by
    have : n = 0 := by simpa using h
    subst this
    rw [binL_small (by decide)]
    exact Nat.le_refl _
  | N + 1, n, h => by
    have h2 : n / 2 < 2 ^ N := by
      rw [Nat.pow_succ] at h
      omega
    by_cases b : 2 ≤ n
    · rw [binL_big b, List.length_append]
      have := bin_len N (n / 2) h2
      simp
      omega
    · rw [binL_small (by omega)]
      simp
theorem count_bin {N n : Nat} (h : n < 2 ^ N) : Txt.count (binT n) (Str.ofString "1") = (((bitsB N n).length : Nat) : Int) := by
  have e : (Str.ofString "1") = ⟨#[49]⟩ := by decide +kernel
  rw [e, count_cnt, cnt_nat]
  show (((binL n).toArray.toList.count 49 : Nat) : Int) = _
  rw [ones_bits N n h]
theorem binT_len {N n : Nat} (h : n < 2 ^ N) (hN : N < 16000000) : (binT n).length ≤ sizeLine := by
  have := bin_len N n h
  show (binL n).toArray.size ≤ _
  rw [List.size_toArray, sizeLine_eq]
  omega
end Vx
namespace Vx
open PySem PySem.Spec PyProof.Rows L2
/-! ### a dict comprehension whose keys are tuples of ints -/
theorem set_compT {X : Cx} {pins : List (Addr × Obj)} {σ : L2.St} {H : Hp} {s : Shared} {E : Value → Shared → Prop} {D b : Addr} {kvs : List (List L2.Key × V)} {k : List L2.Key} {v : V} {r : Value} {Q : Unit → Shared → Prop} (hu : X.A.units < cLine) (I : Inv X pins σ H s)
    (hD : H D = some (.dT kvs)) (few : kvs.length < sizeLine) (eb : H b = some (.tup (k.map kV))) (rv : RelV v r) (h : ∀ s', Inv X pins σ (upd H D (.dT (putK kvs k v))) s' → Q () s') : wpAny (model X.prog X.w) X.A (dictSet D (.ref b) r) Q E s := by
  obtain ⟨lim, notSys, xs, rel, at_⟩ := dt_of I.hok hD
  have lx : xs.length ≤ sizeLine := Paired.length rel ▸ lim
  have lp := length_putK kvs k v
  refine wpAny_dictSet_heap (hsz := lx) (knd := tupleKind (mixKind X.prog X.w)) hu (key_of I.hok eb) at_ fun h' after same => h _ ?_
  obtain ⟨q, es, ep, gq, a1, a2, a3, _, a4⟩ := after
  have other : ∀ c ys, H c = some (.tup ys) → upd H D (.dT (putK kvs k v)) c = some (.tup ys) := fun c ys ec => by
    rw [upd_ne fun e => ?_]
    · exact ec
    · rw [e, hD] at ec
      cases ec
  exact d_write I (by rw [hD]; exact True.intro) same ⟨q, gq⟩ ⟨by omega, notSys, _, (rel.put k eb rv).keeps other, q, es, ep, gq, a1, a2, a3, a4⟩
/-- what one turn of the comprehension asks -/
def AskT (g : TG) (tt : TT) (tk tv : TE) (vs : List Nat) (σ0 : L2.St) (D : Addr) (Nx : Hp → Prop) (x : V) (H' : Hp) : Prop :=
  g x σ0 H' fun σ2 H2 => wipe σ2 vs = σ0 ∧ tt σ2 H2 fun b H3 =>
    if b = true then tk σ2 H3 fun y H4 => tv σ2 H4 fun z H5 => ∃ (kvs : List (List L2.Key × V)) (k : List L2.Key) (b : Addr), y = .ref b ∧ H5 b = some (.tup (k.map kV)) ∧ H5 D = some (.dT kvs) ∧ kvs.length < sizeLine ∧ Nx (upd H5 D (.dT (putK kvs k z))) else Nx H3
/-- one turn, in the comprehension's own block Y -/
theorem turnT {Y : Cx} {tg kx vx : Expr} {ifs : List Expr} {g : TG} {tt : TT} {tk tv : TE} {vs : List Nat} {σ0 : L2.St} {J : It} {fp : List Addr} {it D : Addr} {tn : Nat → Heap → Prop} {Nx : Hp → Prop} {R : Result → Shared → Prop} {Ex : Value → Shared → Prop} {G : Shared → Prop} {i : Nat} {H0 : Hp} {s0 : Shared}
    (hu : Y.A.units < cLine) (calm : Y.calm = true) (quiet : Y.xe = fun _ _ => False) (pg : PG Y tg g) (pt : PTs Y ifs tt) (pk : PE Y kx tk) (pv : PE Y vx tv) (T : Turn Y.prog Y.w Y.K tg J fp it tn)
    (own : ∀ {σ' : L2.St} {H' : Hp} {s' : Shared}, Inv Y [] σ' H' s' → (∀ b ∈ fp, H' b = none) → ∀ b ∈ fp, FpOk Y [] H' b)
    (I0 : Inv Y [] σ0 H0 s0) (st0 : tn i s0.heap) (no0 : ∀ b ∈ fp, H0 b = none) (go : J.go i H0) (ask : ∀ x H', J.yld i H0 x H' → AskT g tt tk tv vs σ0 D Nx x H')
    (fin : ∀ {s' : Shared} {H' : Hp}, Inv Y [] σ0 H' s' → tn (i + 1) s'.heap → (∀ b ∈ fp, H' b = none) → Nx H' → G s') :
    wpAny (model Y.prog Y.w) Y.A (pyNext (.ref it)) (fun r s₁ => match r with
      | none => R (.ok .next) s₁
      | some v => wpAny (model Y.prog Y.w) Y.A (letOwnedTupleGo tg (.ref it) v) (fun _ s₁' => wpAny (model Y.prog Y.w) Y.A (assign tg Y.env v) (fun _ s₂ =>
          wpAny (model Y.prog Y.w) Y.A (forIn ifs true fun c r => if r = true then do let ok ← isTrue c Y.env (eval c Y.env); pure (ForInStep.yield ok) else pure (ForInStep.yield r)) (fun ok s₃ =>
            if ok = true then wpAny (model Y.prog Y.w) Y.A (eval kx Y.env) (fun kv s₄ => wpAny (model Y.prog Y.w) Y.A (eval vx Y.env) (fun vv s₅ =>
              wpAny (model Y.prog Y.w) Y.A (dictSet D kv vv) (fun _ s₆ => G s₆) Ex s₅) Ex s₄) Ex s₃
            else G s₃) Ex s₂) Ex s₁') Ex s₁) Ex s0 := by
  have first := T.item Y rfl rfl rfl calm i [] s0 _ H0 (fun _ _ => False) I0 (own I0 no0) st0 go
  refine thnF first fun r s1 ⟨u, er, took⟩ => ?_
  subst er
  refine thnF took fun _ s2 ⟨x, H1, I1, rx, yx, st1, no1⟩ => ?_
  have J1 := I1.pinned (own I1 no1) (T.obj _ _ st1)
  have rg := pg.run _ s2 _ H1 x u _ J1 rx (ask x H1 yx)
  rw [quiet] at rg
  refine thnF rg fun _ s3 ⟨σ2, H2, I2, back, q2⟩ => ?_
  have rt := pt.run _ s3 σ2 H2 _ I2 q2
  rw [quiet] at rt
  refine thnF rt fun b s4 ⟨H3, I3, q3⟩ => ?_
  -- the end of the turn
  have close : ∀ {s' : Shared} {H' : Hp}, Inv Y ([] ++ pinsAt fp s2.heap) σ2 H' s' → Nx H' → G s' := fun {s' H'} I' nx => by
    have kept : ∀ c ∈ fp, ∀ o, s2.heap.get? c = some o → s'.heap.get? c = some o ∧ H' c = none := fun c hc o e => by
      have z := I'.pin (c, o) (List.mem_append_right _ (List.mem_append_right _ (mem_pinsAt hc e)))
      exact ⟨z.1, z.2.1⟩
    have len : σ0.length = σ2.length := by rw [← back, wipe_length]
    refine fin ((I'.unpinned (pins := [])).weak len fun j v e => ?_) (T.keep _ _ _ st1 fun c hc o e => (kept c hc o e).1) (fun c hc => ?_) nx
    · rw [← back] at e
      exact (wipe_some e).1
    · obtain ⟨o, e, _⟩ := T.obj _ _ st1 c hc
      exact (kept c hc o e).2
  cases b with
  | false => exact close I3 q3
  | true =>
    have rk := pk.run _ s4 σ2 H3 _ I3 q3
    rw [quiet] at rk
    refine thnF rk fun z s5 ⟨yk, H4, I4, ry, q4⟩ => ?_
    have rv := pv.run _ s5 σ2 H4 _ I4 q4
    rw [quiet] at rv
    refine thnF rv fun z2 s6 ⟨yv, H5, I5, rz, kvs, k, c, ek, hc, hD, few, nx⟩ => ?_
    subst ek
    cases ry
    exact set_compT hu I5 hD few hc rz fun s7 I7 => close I7 nx
section
variable {X : Cx}
/-- {k: v for target in iter if ..}: D the new dict -/
def tDcT (wi : TI) (g : TG) (tt : TT) (tk tv : TE) (vs : List Nat) : TE := fun σ H Q => wi σ H fun J H1 => ∀ D, H1 D = none → ∃ W : Nat → Nat → Hp → Prop, (∃ m, W 0 m (upd H1 D (.dT []))) ∧ ∀ i m H, W i m H →
  (J.stop i H ∧ Q (.ref D) H) ∨ (J.go i H ∧ ∃ Nx : Hp → Prop, (∀ H', Nx H' → ∃ m', m' < m ∧ W (i + 1) m' H') ∧ ∀ x H', J.yld i H x H' → AskT g tt tk tv vs (wipe σ vs) D Nx x H')
theorem dc_core {pins : List (Addr × Obj)} {s : Shared} {σ : L2.St} {H : Hp} {Q : VK} {kx vx tg iter : Expr} {ifs : List Expr} {scope : Scope} {own : List (Str × Nat)} {pos pos' : Pos} {wi : TI} {g : TG} {tt : TT} {tk tv : TE} {use : Option (Value → Sem Unit)} {Qf : Value → Shared → Prop} (calm : X.calm = true) (hu : X.A.units < cLine) (hN : X.N.Nodup) (I : Inv X pins σ H s) (hi : PI X tg iter wi) (ok : BlkOk X.N X.env.scope scope own)
    (hg : ∀ (s : Shared) (H : Hp) (C : Addr) (cl : List (Str × Addr)) (fp : List Addr), PG (X.blk s H scope (compEnvC scope cl C X.env) fp) tg g) (ht : ∀ (s : Shared) (H : Hp) (C : Addr) (cl : List (Str × Addr)) (fp : List Addr), PTs (X.blk s H scope (compEnvC scope cl C X.env) fp) ifs tt)
    (hk : ∀ (s : Shared) (H : Hp) (C : Addr) (cl : List (Str × Addr)) (fp : List Addr), PE (X.blk s H scope (compEnvC scope cl C X.env) fp) kx tk)
    (hv : ∀ (s : Shared) (H : Hp) (C : Addr) (cl : List (Str × Addr)) (fp : List Addr), PE (X.blk s H scope (compEnvC scope cl C X.env) fp) vx tv) (hs : ∀ x, foldedSetIterable iter X.env x = pure x) (h : tDcT wi g tt tk tv (own.map (·.2)) σ H Q)
    (hRR : ∀ D C s' m H', Inv X pins σ H' s' → Q (.ref D) H' → s'.heap.Ns C m → FpOk X pins H' C → compPost (model X.prog X.w) X.A X.xe use Qf (.ref D) C (.ok .next) s') :
    wpAny (model X.prog X.w) X.A (comprehension (.DictComp kx vx [⟨tg, iter, ifs, 0⟩] scope pos) scope X.env pos' newDict false (eval iter X.env) use) Qf X.xe s := by
  have hfree : ∀ y ∈ scope.names, y.2 = .free → ∃ c, X.env.cells.lookup y.1 = some c := fun y hy e => (ok.free y hy e).elim (fun k => I.ok.has _ (.inl k)) fun k => I.ok.has _ (.inr k)
  refine wpAny_comprehension_free (use := use) rfl hs (closure_ok hfree) ok.kind (fun y hy e => by rw [ok.uniq y hy, e]) (thn (hi.run pins s σ H _ I h) fun xv s1 hx => thn hx fun itv sI got => ?_)
  obtain ⟨it, fp, tn, J, HI, rfl, II, T, stI, fpI, q⟩ := got
  refine wpAny_newObj_type (newEnv_comp ?_)
  -- the new dict
  obtain ⟨D, eD⟩ : ∃ D, D = sI.heap.objs.size := ⟨_, rfl⟩
  have nD : HI D = none := II.hok.fresh (Nat.le_of_eq eD.symm)
  obtain ⟨W, ⟨m0, w0⟩, turns⟩ := q D nD
  have hE : ∃ sE : Shared, sE = { sI with heap := sI.heap.push { cls := .type "dict", data := .dict #[] } } := ⟨_, rfl⟩
  obtain ⟨sE, eE⟩ := hE
  have pushE : sE.heap = sI.heap.push { cls := .type "dict", data := .dict #[] } := by rw [eE]
  have IE : Inv X pins σ (upd HI D (.dT [])) sE := by
    rw [eE]
    refine II.laid (t' := sI.toks) (fun b o e => Heap.get?_push_of_some _ e) (Nat.le_of_eq eD.symm) ?_
    rw [eD]
    exact dt_empty sI.heap II.big
  have fpE : ∀ b ∈ fp, FpOk X pins (upd HI D (.dT [])) b ∧ b < sE.heap.objs.size := fun b hb => by
    obtain ⟨o, e, _⟩ := T.obj _ _ stI b hb
    have lb := Heap.lt_size e
    obtain ⟨no, more⟩ := fpI b hb
    refine ⟨⟨?_, more⟩, by rw [pushE, Heap.size_push]; exact Nat.lt_succ_of_lt lb⟩
    rw [upd_ne (Nat.ne_of_lt (by rw [eD]; exact lb))]
    exact no
  have stE : tn 0 sE.heap := T.keep _ _ _ stI fun b _ o e => by rw [pushE]; exact Heap.get?_push_of_some _ e
  -- the block
  have IB := block_start IE ok hN fpE
  have pgB := hg sE (upd HI D (.dT [])) sE.heap.objs.size (cellsFrom (sE.heap.objs.size + 1) scope.names (cloFrom X.env.cells scope.names [])) fp
  have ptB := ht sE (upd HI D (.dT [])) sE.heap.objs.size (cellsFrom (sE.heap.objs.size + 1) scope.names (cloFrom X.env.cells scope.names [])) fp
  have pkB := hk sE (upd HI D (.dT [])) sE.heap.objs.size (cellsFrom (sE.heap.objs.size + 1) scope.names (cloFrom X.env.cells scope.names [])) fp
  have pvB := hv sE (upd HI D (.dT [])) sE.heap.objs.size (cellsFrom (sE.heap.objs.size + 1) scope.names (cloFrom X.env.cells scope.names [])) fp
  rw [← eD]
  have eS : ({ sI with heap := sI.heap.push { cls := .type "dict", data := .dict #[] } } : Shared) = sE := eE.symm
  rw [eS]
  show codeAny _ _ (.compStart (.DictComp kx vx [⟨tg, iter, ifs, 0⟩] scope pos) 0 (.ref it) (.ref D) (compEnvC scope (cellsFrom (sE.heap.objs.size + 1) scope.names (cloFrom X.env.cells scope.names [])) sE.heap.objs.size X.env)) _ _
  have noE : ∀ b ∈ fp, upd HI D (.dT []) b = none := fun b hb => (fpE b hb).1.1
  obtain ⟨env, eEnv⟩ : ∃ env, env = compEnvC scope (cellsFrom (sE.heap.objs.size + 1) scope.names (cloFrom X.env.cells scope.names [])) sE.heap.objs.size X.env := ⟨_, rfl⟩
  have locE : env.locals = sE.heap.objs.size := by rw [eEnv]; rfl
  rw [← eEnv] at IB pgB ptB pkB pvB ⊢
  obtain ⟨HE, eHE⟩ : ∃ HE, HE = upd HI D (.dT []) := ⟨_, rfl⟩
  rw [← eHE] at IE IB pgB ptB pkB pvB w0 noE fpE
  obtain ⟨sB, eB⟩ : ∃ sB : Shared, sB = { sE with heap := pushCells (sE.heap.push { cls := .type "dict", data := .dict #[] }) scope.names } := ⟨_, rfl⟩
  rw [← eB] at IB ⊢
  have stB : tn 0 sB.heap := T.keep _ _ _ stE fun b _ o e => by rw [eB]; exact pushCells_keeps _ _ _ _ (Heap.get?_push_of_some _ e)
  have ownB : ∀ {σ' : L2.St} {H' : Hp} {s' : Shared}, Inv (X.blk sE HE scope env fp) [] σ' H' s' → (∀ b ∈ fp, H' b = none) → ∀ b ∈ fp, FpOk (X.blk sE HE scope env fp) [] H' b := fun {σ' H' s'} I' no b hb =>
    ⟨no b hb, (I'.ok.exf b hb).1, I'.ok.exfs b hb, .inl hb, fun x c e => (I'.ok.exf b hb).2 x c e, fun p hp => absurd (show p ∈ ([] : List (Addr × Obj)) ++ [] from hp) (by simp)⟩
  have loop : codeAny (model X.prog X.w) X.A (.compLoop (.DictComp kx vx [⟨tg, iter, ifs, 0⟩] scope pos) 0 (.ref it) (.ref D) env) (compPost (model X.prog X.w) X.A X.xe use Qf (.ref D) sE.heap.objs.size) sB := by
    refine compLoop_anyD (fun n s' => ∃ i H', Inv (X.blk sE HE scope env fp) [] (wipe σ (own.map (·.2))) H' s' ∧ tn i s'.heap ∧ (∀ b ∈ fp, H' b = none) ∧ W i n H') ?_ m0 ⟨0, HE, IB, stB, noE, w0⟩
    rintro n s5 ⟨i, H5, I5, st5, no5, w5⟩
    rcases turns i n H5 w5 with ⟨stop, done⟩ | ⟨go, Nx, less, ask⟩
    · refine thnF (T.done (X.blk sE HE scope env fp) rfl rfl rfl calm i [] s5 _ H5 (fun _ _ => False) I5 (ownB I5 no5) st5 stop) fun r s6 ⟨er, I6⟩ => ?_
      subst er
      have IX : Inv X pins σ H5 s6 := IE.call' (ch := fp) I6.os I6.base I6.hok I6.bare fun b hb => by
        obtain ⟨_, f1, _, f3, f4, f5⟩ := (fpE b hb).1
        exact ⟨f3, f1, f4, f5⟩
      have nC : H5 sE.heap.objs.size = none := by
        rw [← locE]
        exact I6.free
      obtain ⟨m, hn, _⟩ := I6.loc
      have hn : s6.heap.Ns env.locals m := hn
      rw [locE] at hn
      exact hRR D _ s6 m H5 IX done hn (IE.fpOk (Nat.le_refl _) nC)
    · refine turnT (Y := X.blk sE HE scope env fp) (G := fun s' => ∃ m, m < n ∧ ∃ i H', Inv (X.blk sE HE scope env fp) [] (wipe σ (own.map (·.2))) H' s' ∧ tn i s'.heap ∧ (∀ b ∈ fp, H' b = none) ∧ W i m H') hu calm rfl pgB ptB pkB pvB T ownB I5 st5 no5 go ask fun {s' H'} I' st' no' nx => ?_
      obtain ⟨m, lm, w'⟩ := less H' nx
      exact ⟨m, lm, i + 1, H', I', st', no', w'⟩
  exact codeAny_compStart_dict loop (T.self X.A 0 _ _ _ stB loop)
theorem pe_dcT {kx vx tg iter : Expr} {ifs : List Expr} {scope : Scope} {own : List (Str × Nat)} {pos : Pos} {wi : TI} {g : TG} {tt : TT} {tk tv : TE} (calm : X.calm = true) (hu : X.A.units < cLine) (hN : X.N.Nodup) (hi : PI X tg iter wi) (ok : BlkOk X.N X.env.scope scope own)
    (hg : ∀ (s : Shared) (H : Hp) (C : Addr) (cl : List (Str × Addr)) (fp : List Addr), PG (X.blk s H scope (compEnvC scope cl C X.env) fp) tg g) (ht : ∀ (s : Shared) (H : Hp) (C : Addr) (cl : List (Str × Addr)) (fp : List Addr), PTs (X.blk s H scope (compEnvC scope cl C X.env) fp) ifs tt)
    (hk : ∀ (s : Shared) (H : Hp) (C : Addr) (cl : List (Str × Addr)) (fp : List Addr), PE (X.blk s H scope (compEnvC scope cl C X.env) fp) kx tk)
    (hv : ∀ (s : Shared) (H : Hp) (C : Addr) (cl : List (Str × Addr)) (fp : List Addr), PE (X.blk s H scope (compEnvC scope cl C X.env) fp) vx tv) (hs : ∀ x, foldedSetIterable iter X.env x = pure x := by intro _; rfl) :
    PE X (.DictComp kx vx [⟨tg, iter, ifs, 0⟩] scope pos) (tDcT wi g tt tk tv (own.map (·.2))) := by
  refine ⟨fun pins s σ H Q I h => ?_⟩
  rw [arm_eval_DictComp]
  refine dc_core (use := none) calm hu hN I hi ok hg ht hk hv hs h fun D C s' m H' I' q hn f => ?_
  obtain ⟨f0, f1, f2, f3, f4, f5⟩ := f
  exact ⟨m, hn, fun h'' sb => ⟨.ref D, H', I'.turned (t' := s'.toks) (fun b o hb e => (sb.2 b hb).trans e) f0 f1 f3 f4 f5, rfl, q⟩⟩
theorem sw_dict {kx vx : Expr} {gs : List Comprehension} {scope : Scope} {pos py : Pos} {y : Str} {l : Nat} {env : Env} (hk : env.scope.kind = .function) (hy : env.scope.names.lookup y = some .local) (hl : (py.line == pos.line) = true)
    (ha : (scope.names.any fun (n, k) => n == y && (k == .local || k == .cell)) = false) : swapsWith (.DictComp kx vx gs scope pos) (some (.Name y py)) l env = pure true := by
  have ky : env.kindOf y = some .local := hy
  have hb : env.blockKind = .function := by unfold Env.blockKind; rw [hk]; rfl
  unfold swapsWith
  simp only [hb, ky, ha, Expr.pos, hl]
  rfl
theorem ps_setDcT {i : Nat} {y : Str} {py : Pos} {kx vx tg iter : Expr} {ifs : List Expr} {scope : Scope} {own : List (Str × Nat)} {pos spos : Pos} {wi : TI} {g : TG} {tt : TT} {tk tv : TE} (calm : X.calm = true) (hu : X.A.units < cLine) (hN : X.N.Nodup) (hy : X.N[i]? = some y) (hyl : X.env.scope.names.lookup y = some .local)
    (hsw : swapsWith (.DictComp kx vx [⟨tg, iter, ifs, 0⟩] scope pos) (some (.Name y py)) spos.line X.env = pure true) (hi : PI X tg iter wi) (ok : BlkOk X.N X.env.scope scope own)
    (hg : ∀ (s : Shared) (H : Hp) (C : Addr) (cl : List (Str × Addr)) (fp : List Addr), PG (X.blk s H scope (compEnvC scope cl C X.env) fp) tg g) (ht : ∀ (s : Shared) (H : Hp) (C : Addr) (cl : List (Str × Addr)) (fp : List Addr), PTs (X.blk s H scope (compEnvC scope cl C X.env) fp) ifs tt)
    (hk : ∀ (s : Shared) (H : Hp) (C : Addr) (cl : List (Str × Addr)) (fp : List Addr), PE (X.blk s H scope (compEnvC scope cl C X.env) fp) kx tk)
    (hv : ∀ (s : Shared) (H : Hp) (C : Addr) (cl : List (Str × Addr)) (fp : List Addr), PE (X.blk s H scope (compEnvC scope cl C X.env) fp) vx tv) (hs : ∀ x, foldedSetIterable iter X.env x = pure x := by intro _; rfl) :
    PS X (.Assign [.Name y py] (.DictComp kx vx [⟨tg, iter, ifs, 0⟩] scope pos) spos) (tAsg (tDcT wi g tt tk tv (own.map (·.2))) (gName i)) := by
  refine ⟨fun pins s σ H D I h => ?_⟩
  rw [exec_Assign_Name_used _ _ _ _ hsw]
  refine wpAny_bind (wpAny_standAt (wpAny_bind ?_))
  show wpAny _ X.A (do let _ ← comprehension (.DictComp kx vx [⟨tg, iter, ifs, 0⟩] scope pos) scope X.env (firstIterPos [⟨tg, iter, ifs, 0⟩] pos) newDict false (eval iter X.env) (some (assign (.Name y py) X.env))) _ _ s
  have h : tDcT wi g tt tk tv (own.map (·.2)) σ H (fun x H1 => gName i x σ H1 D.nx) := h
  refine wpAny_bind (thn (dc_core (Qf := fun _ s' => SP X pins D .next s') calm hu hN I hi ok hg ht hk hv hs h fun L C s' m H' I' q hn f => ?_) fun _ s' hq => wpAny_pure (wpAny_pure hq))
  show wpAny _ _ (assign (.Name y py) X.env (.ref L)) _ _ _
  refine wpAny_assign_Name (store_ok2 (v := V.ref L) I' hN hy (.inl hyl) rfl (fun s2 I2 ⟨a, sb, ha⟩ => ?_) (.inr hyl))
  obtain ⟨f0, f1, f2, f3, f4, f5⟩ := f
  have haC : C ≠ a := by
    rcases ha with z | z
    · rw [z]; exact f1
    · exact fun e => f4 y a z e.symm
  refine ⟨m, hn.sameBut sb haC, fun h3 sb3 => ?_⟩
  exact ⟨_, H', I2.turned (t' := s2.toks) (fun b o hb e => (sb3.2 b hb).trans e) f0 f1 f3 f4 f5, q⟩
/-- over a walk -/
theorem dcT_it {J : It} {n : Nat} {G : Hp → Prop} {Y : Nat → Hp → V → Hp → Prop} (w : Walk J n G Y) {g : TG} {tt : TT} {tk tv : TE} {vs : List Nat} {σ : L2.St} {H1 : Hp} {D : Addr} {Qd : Hp → Prop} (Pv : Nat → Hp → Prop) (h0 : Pv 0 (upd H1 D (.dT []))) (hG : ∀ i H, i ≤ n → Pv i H → G H)
    (hs : ∀ i x H H', i < n → Pv i H → Y i H x H' → AskT g tt tk tv vs (wipe σ vs) D (Pv (i + 1)) x H') (hd : ∀ H, Pv n H → Qd H) :
    ∃ W : Nat → Nat → Hp → Prop, (∃ m, W 0 m (upd H1 D (.dT []))) ∧ ∀ i m H, W i m H →
      (J.stop i H ∧ Qd H) ∨ (J.go i H ∧ ∃ Nx : Hp → Prop, (∀ H', Nx H' → ∃ m', m' < m ∧ W (i + 1) m' H') ∧ ∀ x H', J.yld i H x H' → AskT g tt tk tv vs (wipe σ vs) D Nx x H') := by
  refine ⟨fun i m H => m + i = n ∧ Pv i H, ⟨n, rfl, h0⟩, ?_⟩
  rintro i m H ⟨e, p⟩
  have st := hG i H (by omega) p
  by_cases lt : i < n
  · exact .inr ⟨w.goes i H lt st, Pv (i + 1), fun H' p' => ⟨m - 1, by omega, by omega, p'⟩, fun x H' y => hs i x H H' lt p (w.yields i H x H' lt st y)⟩
  · have : i = n := by omega
    subst this
    exact .inl ⟨w.stops H st, hd H p⟩
end
end Vx
namespace Vx
open PySem PySem.Spec PyProof.Rows L2
/-! ### enumerate(v), v a tuple -/
set_option maxHeartbeats 1000000 in
theorem meets_enumerate_new1 {v : Value} {o : Obj} {H : Heap → Prop} (B : Begins v o H) :
    Meets (Builtin.«enumerate.__new__» ⟨[.type "enumerate", v], []⟩) (fun _ R s => H s.heap ∧
      R (.ok (.ret (.ref (s.heap.push o).objs.size))) { s with heap := (s.heap.push o).push { cls := .type "enumerate", data := .fields #[.none, .bool false, .ref s.heap.objs.size, rawInt 0, .none, .none] } }) :=
  .of_wp fun prog w A R s h => by
    obtain ⟨hp, g, d, tk, os⟩ := s; obtain ⟨h1, h⟩ := h
    have hsub := sub_enumerate
    have q1 : ∀ {A' : Around} {E : Value → Shared → Prop} {Q : Value → Shared → Prop}, Q (.ref hp.objs.size) ⟨hp.push o, g, d, tk, os⟩ → wpAny (model prog w) A' (pyIter v) Q E ⟨hp, g, d, tk, os⟩ :=
      fun q => B.iter prog w _ _ ⟨hp, g, d, tk, os⟩ _ h1 q
    wp_walk using q1
    refine wpAny_stack_any fun st => wpAny_pure ?_
    split
    · rename_i c _ _ _ _ _
      cases (c == Value.type "enumerate")
      · wp_walk using q1
        exact ⟨_, rfl, h⟩
      · wp_walk using q1
        exact ⟨_, rfl, h⟩
    · wp_walk using q1
      exact ⟨_, rfl, h⟩
theorem call_enumerate1 {prog : Program} {w : World} {A : Around} {E : Value → Shared → Prop} {s : Shared} {v : Value} {o : Obj} {H : Heap → Prop} {Q : Value → Shared → Prop} (B : Begins v o H) (h1 : H s.heap)
    (h : ∀ h', IsEnum h' (s.heap.objs.size + 1) s.heap.objs.size 0 .none → h'.get? s.heap.objs.size = some o → h'.objs.size = s.heap.objs.size + 2 →
      (∀ b o, s.heap.get? b = some o → h'.get? b = some o) → Q (.ref (s.heap.objs.size + 1)) { s with heap := h' }) :
    wpAny (model prog w) A (call (.type "enumerate") [v]) Q E s := by
  refine callType_new F.called_enumerate (by decide) (F.typeCall_enumerate_1 _) (F.newCall_enumerate_1 _) (fun obj => F.args_object_init_2 obj _) F.entry_enumerate_new
    (meets_enumerate_new1 B) ⟨h1, ?_⟩
  have hz : (s.heap.push o).objs.size = s.heap.objs.size + 1 := Heap.size_push ..
  show _ ∧ _
  rw [hz]
  have he : IsEnum ((s.heap.push o).push { cls := .type "enumerate", data := .fields #[.none, .bool false, .ref s.heap.objs.size, rawInt 0, .none, .none] }) (s.heap.objs.size + 1) s.heap.objs.size 0 .none := by
    have := Heap.get?_push_size (s.heap.push o) (o := { cls := .type "enumerate", data := .fields #[.none, .bool false, .ref s.heap.objs.size, rawInt 0, .none, .none] }) rfl
    rw [hz] at this; exact this
  refine ⟨⟨_, he, rfl⟩, h _ he (Heap.get?_push_of_some _ (Heap.get?_push_size _ B.free)) (by rw [Heap.size_push, hz]) fun b o x => Heap.get?_push_of_some _ (Heap.get?_push_of_some _ x)⟩
def IteT (K : PySem.W.Frag) (a : Addr) : It :=
  ⟨fun i H => ∃ (xs : List V) (x : V), SqT K H a xs ∧ xs[i]? = some x, fun i H v H' => ∃ T x, v = .ref T ∧ H T = none ∧ H' = upd H T (.tup [.int (i : Nat), x]) ∧ ∀ xs, SqT K H a xs → xs[i]? = some x, fun i H => ∃ xs : List V, SqT K H a xs ∧ xs.length = i⟩
theorem turn_enumT {P : Program} {w : World} {K : PySem.W.Frag} {elts : List Expr} {kk : Nat} {tpos : Pos} (a e it : Addr) (nae : a ≠ e) (nai : a ≠ it) :
    Turn P w K (.Tuple elts kk tpos) (IteT K a) [e, it] e (fun i h => (∃ old, IsEnum h e it ((i : Nat) : Int) old) ∧ h.IsTupleIter it a i ∧ e ≠ it) where
  mem := by simp
  obj := fun i h st b hb => by
    obtain ⟨⟨old, he⟩, ⟨o, ho, hc, hd⟩, _⟩ := st
    have e' : b = e ∨ b = it := by simpa using hb
    rcases e' with z | z
    · rw [z]; exact ⟨_, he, fun v q => nomatch q⟩
    · rw [z]; exact ⟨o, ho, fun v q => by rw [hd] at q; cases q⟩
  keep := fun i h h' st k => let ⟨⟨old, he⟩, hi, hne⟩ := st; ⟨⟨old, k e (by simp) _ he⟩, hi.at fun o q => k it (by simp) o q, hne⟩
  item := by
    intro X hP hw hK hc i pins s σ H E I hf st hg
    subst hP hw hK
    obtain ⟨⟨old, he⟩, hit, hne⟩ := st
    obtain ⟨xs, x, hq, hx⟩ := hg
    obtain ⟨its, rv, p, hz⟩ := I.tuple hq
    obtain ⟨u, hu, ru⟩ := rv.get hx
    have hel : e < s.heap.objs.size := Heap.lt_size he
    have hil : it < s.heap.objs.size := by obtain ⟨_, q, _⟩ := hit; exact Heap.lt_size q
    have D := Draws.tuple (prog := X.prog) (w := X.w) (A := X.A.in1) (I.ok.hd hc) it a nai its.toArray
    have li : i < its.toArray.size := by
      have := List.getElem?_eq_some_iff.mp hu
      obtain ⟨q, _⟩ := this
      simpa using q
    refine wpAny_pyNext_enum_itemC D he ⟨hit, p⟩ li hne (by simp; exact ⟨hne, fun z => nae z.symm⟩) fun x' h' tk hx' ho hit' hT hsz hk => ?_
    have ex : x' = u := by
      have z : its.toArray[i]? = some x' := hx'
      rw [List.getElem?_toArray, hu] at z
      exact (Option.some.inj z).symm
    subst ex
    refine ⟨_, rfl, wpAny_letOwnedTupleGo_enum (s := { s with heap := h', toks := tk + 1 }) ho fun h'' he' sb => ?_⟩
    have hT2 : h''.get? s.heap.objs.size = some { cls := .type "tuple", data := .seq #[.int i tk, x'] } := (sb.2 _ (Nat.ne_of_gt hel)).trans hT
    have new : ObjOk X.prog X.w (upd H s.heap.objs.size (.tup [.int (i : Nat), x])) h'' s.heap.objs.size (.tup [.int (i : Nat), x]) :=
      ⟨by show 2 ≤ sizeLine; decide, [.int i tk, x'], .cons ⟨_, rfl⟩ (.cons ru .nil), ⟨_, hT2, rfl, _, rfl⟩⟩
    have I1 : Inv X pins σ (upd H s.heap.objs.size (.tup [.int (i : Nat), x])) { s with heap := h'', toks := tk + 1 } :=
      I.turnedNew (ch := [e, it]) (fun b ob hb q => (sb.2 b (fun z => hb (by simp [z]))).trans (hk b ob (fun z => hb (by simp [z])) (fun z => hb (by simp [z])) q)) hf (Nat.le_refl _) new
    refine ⟨.ref s.heap.objs.size, _, I1, rfl, ⟨_, x, rfl, I.hok.fresh (Nat.le_refl _), rfl, fun ys hy => by rw [I.tuple_inj hy hq]; exact hx⟩, ⟨⟨x', ?_⟩, hit'.1.at fun o q => (sb.2 it (Ne.symm hne)).trans q, hne⟩, fun b hb => ?_⟩
    · have e1 : ((i + 1 : Nat) : Int) = (i : Int) + 1 := by omega
      rw [e1]; exact he'
    · have hb' : b < s.heap.objs.size := by
        have e' : b = e ∨ b = it := by simpa using hb
        rcases e' with z | z
        · rw [z]; exact hel
        · rw [z]; exact hil
      rw [upd_ne (Nat.ne_of_lt hb')]
      exact (hf b hb).1
  done := by
    intro X hP hw hK hc i pins s σ H E I hf st hg
    subst hP hw hK
    obtain ⟨⟨old, he⟩, hit, hne⟩ := st
    obtain ⟨xs, hq, hx⟩ := hg
    obtain ⟨its, rv, p, hz⟩ := I.tuple hq
    obtain ⟨f0, f1, f2, f3, f4, f5⟩ := hf it (by simp)
    have hl := rv.length
    have D := Draws.tuple (prog := X.prog) (w := X.w) (A := X.A.in1) (I.ok.hd hc) it a nai its.toArray
    have en : i = its.toArray.size := by simp; omega
    refine wpAny_pyNext_enum_endD D he ?_ fun h' eb => ⟨rfl, I.turned (t' := s.toks) (fun b o hb q => eb b o hb q) f0 f1 f3 f4 f5⟩
    rw [← en]
    exact ⟨hit, p⟩
  self := fun A i s Q E st h => let ⟨⟨_, he⟩, _⟩ := st; wpAny_pyIter_enum he h
def iEnumT (K : PySem.W.Frag) (ta : TA) : TI := fun σ H R => ta σ H fun vs H1 => ∃ a xs, vs = [.ref a] ∧ SqT K H1 a xs ∧ R (IteT K a) H1
theorem pi_enumT {X : Cx} {e : Expr} {ta : TA} {p pos tpos : Pos} {elts : List Expr} {kk : Nat} (hg : Gl X "enumerate") (hm : X.mg "enumerate" = none) (ha : PA X [e] ta) (hs : starEach [e] X.env = [(false, eval e X.env)] := by rfl) :
    PI X (.Tuple elts kk tpos) (.Call (.Name "enumerate" p) [e] [] pos) (iEnumT X.K ta) := by
  refine ⟨fun pins s σ H R I h => ?_⟩
  refine Call_ (ld_blt I hg hm boot_enumerate (PyProof.Rows.callWith_type1 (thn (ha.run pos pins s σ H _ I h) fun us s1 ⟨vs, H1, I1, r1, q1⟩ => ?_) hs rfl))
  obtain ⟨a, xs, ex, hq, q⟩ := q1
  subst ex
  cases r1 with
  | cons r rr =>
    cases rr
    cases r
    obtain ⟨its, rv, p', hz⟩ := I1.tuple hq
    have la : a < s1.heap.objs.size := by obtain ⟨o, e, _⟩ := p'; exact Heap.lt_size e
    refine call_enumerate1 (begins_tuple a its.toArray) (show s1.heap.IsTuple a its.toArray from p') fun h' he hit hsz hk => wpAny_pyIter_enum he ?_
    have I2 : Inv X pins σ H1 { s1 with heap := h' } := I1.kept (t' := s1.toks) hk
    refine ⟨s1.heap.objs.size + 1, [s1.heap.objs.size + 1, s1.heap.objs.size], _, _, H1, rfl, I2, turn_enumT a (s1.heap.objs.size + 1) s1.heap.objs.size (Nat.ne_of_lt (Nat.lt_succ_of_lt la)) (Nat.ne_of_lt la), ⟨⟨.none, he⟩, ⟨_, hit, rfl, rfl⟩, Nat.succ_ne_self _⟩, fun b hb => ?_, q⟩
    have e' : b = s1.heap.objs.size + 1 ∨ b = s1.heap.objs.size := by simpa using hb
    have hle : s1.heap.objs.size ≤ b := by
      rcases e' with z | z
      · rw [z]; exact Nat.le_add_right _ _
      · rw [z]; exact Nat.le_refl _
    exact I1.fpOk hle (I1.hok.fresh hle)
theorem walk_enumT {K : PySem.W.Frag} {a : Addr} {xs : List V} : Walk (IteT K a) xs.length (fun H => SqT K H a xs) (YPair (fun i => some (.int (i : Nat))) (fun i => xs[i]?)) := by
  refine ⟨fun i _ hi q => ⟨xs, xs[i], q, by simp [hi]⟩, fun _ q => ⟨xs, q, rfl⟩, fun i H v H' _ q y => ?_⟩
  obtain ⟨T, x, h1, h2, h3, h4⟩ := y
  exact ⟨T, .int (i : Nat), x, h1, h2, h3, rfl, h4 xs q⟩
end Vx
namespace Vx
open PySem PySem.Spec PyProof.Rows L2
/-- isinstance of the caught error, its class told by the reading -/
theorem call_isE2 {X : Cx} {a D : Addr} {oe : Obj} {cls : Value} {d : Option Addr} {pn : List (Addr × Obj)} (C : ExcC X.K D) (hz : Zc cls d oe) (hf : ∃ vs, oe.data = .fields vs) :
    CallR (X.suite a ((a, oe) :: pn)) (.builtin "isinstance") (fun xs H Q => cls = .ref D ∧ d = none ∧ rIsE X.K D a xs H Q) := fun pins s σ H xs us Q I r h => by
  obtain ⟨h1, h2, h3⟩ := h
  subst h1 h2
  exact call_isE C hz hf pins s σ H xs us Q I r h3
theorem kit_sub {K : PySem.W.Frag} {D C : Addr} {b : Bool} (hc : PySem.W.isClsIn K C = true) (ht : PySem.W.typeIn K (.ref C) = some (.type "type")) (h1 : PySem.W.subIn K (.ref D) (.ref D) = some true) (h2 : PySem.W.subIn K (.ref D) (.ref C) = some b) :
    PySem.W.kitOne K (.ref D) (.ref C) = some b := by
  unfold PySem.W.kitOne
  by_cases e : D = C
  · subst e
    rw [h1] at h2
    rw [if_pos (beq_self_eq_true _)]
    exact h2
  · rw [if_neg (by intro q; exact e (Value.ref.inj (beq_iff_eq.mp q)))]
    unfold PySem.W.kitCls
    have hc' : (PySem.W.clsIn K C).isSome = true := hc
    have e2 : ((PySem.W.clsIn K C).isSome && PySem.W.typeIn K (.ref C) == some (.type "type")) = true := by rw [hc', ht]; rfl
    show (if ((PySem.W.clsIn K C).isSome && PySem.W.typeIn K (.ref C) == some (.type "type")) = true then PySem.W.subIn K (.ref D) (.ref C) else none) = some b
    rw [if_pos e2]
    exact h2
theorem kit_ve {K : PySem.W.Frag} {D : Addr} {b : Bool} (h2 : PySem.W.subIn K (.ref D) (.type "ValueError") = some b) : PySem.W.kitOne K (.ref D) (.type "ValueError") = some b := by
  unfold PySem.W.kitOne
  rw [if_neg (by intro q; cases (beq_iff_eq.mp q))]
  show (if PySem.W.kitMeta "ValueError" = true then PySem.W.subIn K (.ref D) (.type "ValueError") else none) = some b
  rw [if_pos (by decide +kernel)]
  exact h2
end Vx
namespace Vx
open PySem PySem.Spec PyProof.Rows L2
theorem op_notInP {X : Cx} (hu : X.A.units + 65 < cLine) : OpR X (compareOp .NotIn) (fun x y H Q => ∃ (t a : Addr) (p : Pr) (ps : List Pr), x = .ref t ∧ y = .ref a ∧ H t = some (.tup [.int p.1, .int p.2]) ∧ Cells H a ps ∧ Q (.bl (!decide (p ∈ ps))) H) := by
  intro pins s σ H x y v u Q I rx ry h
  obtain ⟨t, a, p, ps, rfl, rfl, ht, hc, q⟩ := h
  refine op_notInD hu pins s σ H _ _ v u Q I rx ry ⟨pd p, ps.map pd, .tup (tup_of ht) (.cons (.int _) (.cons (.int _) .nil)), dp_cells hc, shaped_pd p, shaped_cells ps, ?_⟩
  rw [any_pd]
  exact q
/-! ### lists of lists of pairs -/
def lp (ps : List Pr) : PyData := .list (ps.map pd)
def CellsL (H : Hp) (l : Addr) (pss : List (List Pr)) : Prop :=
  ∃ ts : List (Addr × List Pr), H l = some (.lst (ts.map fun t => V.ref t.1)) ∧ (∀ t ∈ ts, Cells H t.1 t.2) ∧ ts.map (·.2) = pss
theorem CellsL.up {H H' : Hp} {l : Addr} {pss : List (List Pr)} (e : Same H H') (h : CellsL H l pss) : CellsL H' l pss := by
  obtain ⟨ts, h1, h2, h3⟩ := h
  exact ⟨ts, e _ _ h1, fun t m => (h2 t m).up e, h3⟩
theorem CellsL.lst {H : Hp} {l : Addr} {pss : List (List Pr)} (h : CellsL H l pss) : ∃ xs, H l = some (.lst xs) ∧ xs.length = pss.length := by
  obtain ⟨ts, h1, h2, h3⟩ := h
  exact ⟨_, h1, by rw [← h3, List.length_map, List.length_map]⟩
theorem CellsL.at {H : Hp} {l : Addr} {pss : List (List Pr)} {i : Nat} {ps : List Pr} (h : CellsL H l pss) (e : pss[i]? = some ps) : ∃ xs a, H l = some (.lst xs) ∧ xs[i]? = some (.ref a) ∧ Cells H a ps := by
  obtain ⟨ts, h1, h2, rfl⟩ := h
  rw [List.getElem?_map] at e
  cases q : ts[i]? with
  | none => rw [q] at e; cases e
  | some t =>
    rw [q] at e
    refine ⟨_, t.1, h1, by rw [List.getElem?_map, q]; rfl, ?_⟩
    rw [← Option.some.inj e]
    exact h2 t (List.mem_of_getElem? q)
theorem CellsL.mut {H : Hp} {l d : Addr} {pss : List (List Pr)} {o : HO} (h : CellsL H l pss) (ne : l ≠ d) (nl : ∀ xs, H d ≠ some (.lst xs)) (nt : ∀ xs, H d ≠ some (.tup xs)) : CellsL (upd H d o) l pss := by
  obtain ⟨ts, h1, h2, h3⟩ := h
  refine ⟨ts, by rw [upd_ne ne]; exact h1, fun t m => (h2 t m).mut (fun e => ?_) nt, h3⟩
  obtain ⟨us, z, _⟩ := h2 t m
  rw [e] at z
  exact nl _ z
theorem eqv_lp (a b : List Pr) : PyData.eqv (lp a) (lp b) = decide (a = b) := eqv_cells a b
theorem eqvAll_lp : ∀ (l m : List (List Pr)), PyData.eqvAll (l.map lp) (m.map lp) = decide (l = m)
  | [], [] => by simp [PyData.eqvAll]
  | [], y :: m => by simp [PyData.eqvAll]
  | x :: l, [] => by simp [PyData.eqvAll]
  | x :: l, y :: m => by
    show (PyData.eqv (lp x) (lp y) && PyData.eqvAll (l.map lp) (m.map lp)) = _
    rw [eqvAll_lp l m, eqv_lp]
    by_cases e : x = y <;> by_cases e2 : l = m <;> simp [e, e2]
theorem eqv_lps (l m : List (List Pr)) : PyData.eqv (.list (l.map lp)) (.list (m.map lp)) = decide (l = m) := eqvAll_lp l m
theorem canAll_lp : ∀ l : List (List Pr), PyData.canLayAll0 (l.map lp) = true
  | [] => by simp [PyData.canLayAll0]
  | x :: l => by
    rw [List.map_cons]
    simp [PyData.canLayAll0, PyData.canLay0, lp, canAll_pd, canAll_lp l]
theorem depAll_lp : ∀ l : List (List Pr), PyData.depthAll (l.map lp) ≤ 2
  | [] => by simp [PyData.depthAll]
  | x :: l => by
    rw [List.map_cons]
    have := depAll_lp l
    have := depAll_pd x
    simp only [PyData.depthAll, PyData.depth, lp]
    omega
theorem shaped_lp (l : List Pr) : SeqAt.shaped (lp l) = true := shaped_cells l
theorem shaped_lps (l : List (List Pr)) : SeqAt.shaped (.list (l.map lp)) = true := by
  unfold SeqAt.shaped
  have := depAll_lp l
  simp only [PyData.canLay0, PyData.depth, canAll_lp]
  simp
  omega
theorem any_lp (p : List Pr) : ∀ ps : List (List Pr), (ps.map lp).any (fun z => PyData.eqv z (lp p)) = decide (p ∈ ps)
  | [] => by simp
  | q :: ps => by
    rw [List.map_cons, List.any_cons, any_lp p ps, eqv_lp]
    by_cases e : q = p
    · subst e
      simp
    · have e2 : ¬ p = q := fun z => e z.symm
      simp [e, e2]
theorem dp_cellsL {K : PySem.W.Frag} {H : Hp} {a : Addr} {pss : List (List Pr)} (h : CellsL H a pss) : Dp K H (.ref a) (.list (pss.map lp)) := by
  obtain ⟨ts, hl, ht, rfl⟩ := h
  refine .lst (lst_of hl) ?_
  have go : ∀ us : List (Addr × List Pr), (∀ t ∈ us, Cells H t.1 t.2) → DpAll K H (us.map fun t => V.ref t.1) ((us.map (·.2)).map lp) := fun us => by
    induction us with
    | nil => exact fun _ => .nil
    | cons t us ih => exact fun h => .cons (dp_cells (h t List.mem_cons_self)) (ih fun u m => h u (List.mem_cons_of_mem _ m))
  exact go ts ht
theorem op_inL {X : Cx} (hu : X.A.units + 65 < cLine) : OpR X (compareOp .In) (fun x y H Q => ∃ (t a : Addr) (p : List Pr) (ps : List (List Pr)), x = .ref t ∧ y = .ref a ∧ Cells H t p ∧ CellsL H a ps ∧ Q (.bl (decide (p ∈ ps))) H) := by
  intro pins s σ H x y v u Q I rx ry h
  obtain ⟨t, a, p, ps, rfl, rfl, ht, hc, q⟩ := h
  refine op_inD hu pins s σ H _ _ v u Q I rx ry ⟨lp p, ps.map lp, dp_cells ht, dp_cellsL hc, shaped_lp p, shaped_lps ps, ?_⟩
  rw [any_lp]
  exact q
theorem mt_indexL {X : Cx} (hu : X.A.units + 65 < cLine) : MtR X "list.index" (fun x xs H Q => ∃ (a t : Addr) (p : List Pr) (ps : List (List Pr)), x = .ref a ∧ xs = [.ref t] ∧ Cells H t p ∧ CellsL H a ps ∧
    ∃ j, ps[j]? = some p ∧ (∀ m p', m < j → ps[m]? = some p' → p' ≠ p) ∧ Q (.int (j : Nat)) H) := by
  intro pins s σ H x xs v us Q I rx rxs h
  obtain ⟨a, t, p, ps, rfl, rfl, ht, hc, j, hj, hno, q⟩ := h
  refine mt_indexD hu pins s σ H _ _ v us Q I rx rxs ⟨a, .ref t, lp p, ps.map lp, j, lp p, rfl, rfl, dp_cellsL hc, dp_cells ht, shaped_lps ps, shaped_lp p, by rw [List.getElem?_map, hj]; rfl, by rw [eqv_lp]; exact decide_eq_true rfl, fun m z' hm hz => ?_, q⟩
  rw [List.getElem?_map] at hz
  obtain ⟨p', hp, rfl⟩ := Option.map_eq_some_iff.mp hz
  rw [eqv_lp]
  exact decide_eq_false (hno m p' hm hp)
theorem CellsL.add {H : Hp} {l t : Addr} {pss : List (List Pr)} {ps : List Pr} {vs : List V} (h : CellsL H l pss) (hv : H l = some (.lst vs)) (hc : Cells H t ps) (ne : t ≠ l) : CellsL (upd H l (.lst (vs ++ [.ref t]))) l (pss ++ [ps]) := by
  obtain ⟨ts, h1, h2, rfl⟩ := h
  have e : vs = ts.map fun t => V.ref t.1 := by
    rw [h1] at hv
    injection hv with hv
    injection hv with hv
    exact hv.symm
  subst e
  have nt : ∀ xs, H l ≠ some (.tup xs) := fun xs z => by
    rw [h1] at z
    cases z
  have nl : ∀ u ∈ ts, u.1 ≠ l := fun u m e => by
    obtain ⟨us, g1, g2, _⟩ := h2 u m
    rw [e, h1] at g1
    injection g1 with g1
    injection g1 with g1
    have mu : V.ref u.1 ∈ ts.map fun t => V.ref t.1 := List.mem_map.mpr ⟨u, m, rfl⟩
    rw [g1] at mu
    obtain ⟨y, my, ey⟩ := List.mem_map.mp mu
    have ey : y.1 = u.1 := V.ref.inj ey
    have z := g2 y my
    rw [ey, e, h1] at z
    cases z
  refine ⟨ts ++ [(t, ps)], by rw [upd_same, List.map_append]; rfl, fun u m => ?_, by rw [List.map_append]; rfl⟩
  rcases List.mem_append.mp m with m | m
  · exact (h2 u m).mut (nl u m) nt
  · rw [List.mem_singleton.mp m]
    exact hc.mut ne nt
theorem CellsL.one {H : Hp} {l t : Addr} {ps : List Pr} (h : H l = some (.lst [.ref t])) (hc : Cells H t ps) : CellsL H l [ps] := ⟨[(t, ps)], h, fun u m => by rw [List.mem_singleton.mp m]; exact hc, rfl⟩
/-- a statement with a word of one's own behind it -/
def tMid (t : TS) : TS := fun D σ H => ∃ P : L2.St → Hp → Prop, t { D with nx := P } σ H ∧ ∀ σ' H', P σ' H' → D.nx σ' H'
theorem ps_mid {X : Cx} {st : Stmt} {t : TS} (h : PS X st t) : PS X st (tMid t) := by
  refine ⟨fun pins s σ H D I hw => ?_⟩
  obtain ⟨P, h1, h2⟩ := hw
  refine thn (h.run pins s σ H _ I h1) fun f s1 q => ?_
  cases f with
  | next =>
    obtain ⟨σ', H', I2, q⟩ := q
    exact ⟨σ', H', I2, h2 _ _ q⟩
  | brk => exact q
  | cont => exact q
  | ret v => exact q
/-- an expression with a word of one's own behind it -/
def tMidE (t : TE) : TE := fun σ H Q => ∃ P : V → Hp → Prop, t σ H P ∧ ∀ v H', P v H' → Q v H'
theorem pe_mid {X : Cx} {e : Expr} {t : TE} (h : PE X e t) : PE X e (tMidE t) := by
  refine ⟨fun pins s σ H Q I hw => ?_⟩
  obtain ⟨P, h1, h2⟩ := hw
  exact thn (h.run pins s σ H _ I h1) fun v s1 ⟨x, H1, I2, r, q⟩ => ⟨x, H1, I2, r, h2 _ _ q⟩
end Vx
namespace Vx
open PySem PySem.Spec PyProof.Rows L2
/-! ### comprehensions with any number of loops: one loop -/
def turnF (p : Pos) (tg : Expr) (ifs : List Expr) (em : (Unit → Sem PySem.Fin) → Sem PySem.Fin) (c : Code) (it : Value) (env : Env) : Sem PySem.Fin := do
  standAt p
  let r ← pyNext it
  match r with
  | none => pure (Fin.done Flow.next)
  | some v => do
    letOwnedTupleGo tg it v
    assign tg env v
    let s ← forIn ifs true fun c r => if r = true then do
        let ok ← PySem.isTrue c env (eval c env)
        pure (ForInStep.yield ok)
      else pure (ForInStep.yield r)
    if s = true then em fun _ => again c else again c
def finP (R : Result → Shared → Prop) (c : Code) (I : Nat → Shared → Prop) (n : Nat) : PySem.Fin → Shared → Prop := fun fin s' => match fin with
  | Fin.done f => R (Except.ok f) s'
  | Fin.again c' => c' = c ∧ ∃ m, m < n ∧ I m s'
theorem loopG {prog : Program} {w : World} {A : Around} {R : Result → Shared → Prop} {s : Shared} {e : Expr} {d : Nat} {it acc : Value} {env : Env} {p : Pos} {tg : Expr} {ifs : List Expr} {em : (Unit → Sem PySem.Fin) → Sem PySem.Fin}
    (hq : (Code.compLoop e d it acc env).quiet = true) (hun : A.under (Code.compLoop e d it acc env) = A) (hden : (model prog w).den (Code.compLoop e d it acc env) = Sem.onRaise (compTurn e d it acc env) fun x => do
      noteFrame x env
      theTreesLotGoes x)
    (ht : compTurn e d it acc env = turnF p tg ifs em (Code.compLoop e d it acc env) it env) (I : Nat → Shared → Prop)
    (turn : ∀ n s, I n s → wpAny (model prog w) A (pyNext it) (fun r s1 => match r with
        | none => R (Except.ok Flow.next) s1
        | some v => wpAny (model prog w) A (letOwnedTupleGo tg it v) (fun _ s2 => wpAny (model prog w) A (assign tg env v) (fun _ s3 =>
            wpAny (model prog w) A (forIn ifs true fun c r => if r = true then do
                let ok ← PySem.isTrue c env (eval c env)
                pure (ForInStep.yield ok)
              else pure (ForInStep.yield r)) (fun ok s4 => if ok = true then wpAny (model prog w) A (em fun _ => again (Code.compLoop e d it acc env)) (finP R (Code.compLoop e d it acc env) I n) (notedBy (model prog w) A env fun e s' => R (Except.error e) s') s4 else ∃ m, m < n ∧ I m s4)
              (notedBy (model prog w) A env fun e s' => R (Except.error e) s') s3)
            (notedBy (model prog w) A env fun e s' => R (Except.error e) s') s2)
          (notedBy (model prog w) A env fun e s' => R (Except.error e) s') s1)
      (notedBy (model prog w) A env fun e s' => R (Except.error e) s') s) (n : Nat) (h : I n s) : codeAny (model prog w) A (Code.compLoop e d it acc env) R s := by
  refine codeAny_loop hq I (fun n s hI => ?_) n h
  rw [hun, hden]
  refine wpAny_noted ?_
  rw [ht]
  unfold turnF
  refine wpAny_bind (wpAny_standAt (wpAny_bind (wpAny_mono (turn n s hI) (fun r s1 h1 => ?_) fun _ _ z => z)))
  cases r with
  | none => exact wpAny_pure h1
  | some v =>
    refine wpAny_bind (wpAny_mono h1 (fun _ s2 h2 => ?_) fun _ _ z => z)
    refine wpAny_bind (wpAny_mono h2 (fun _ s3 h3 => ?_) fun _ _ z => z)
    refine wpAny_bind (wpAny_mono h3 (fun ok s4 h4 => ?_) fun _ _ z => z)
    cases ok with
    | true =>
      rw [if_pos rfl] at h4 ⊢
      exact h4
    | false =>
      rw [if_neg (by decide)] at h4 ⊢
      exact wpAny_pure ⟨rfl, h4⟩
theorem startG {prog : Program} {w : World} {A : Around} {R : Result → Shared → Prop} {s : Shared} {e : Expr} {d : Nat} {it acc : Value} {env : Env} {g : Comprehension}
    (hq : ∀ it', (Code.compLoop e d it' acc env).quiet = true) (hun : A.under (Code.compStart e d it acc env) = A) (hden : (model prog w).den (Code.compStart e d it acc env) = Sem.onRaise (compStart e d it acc env) fun x => do
      noteFrame x env
      standAt theWindowsPlace)
    (hg : (clausesOf e)[d]? = some g) (ha : g.is_async = 0)
    (h0 : codeAny (model prog w) A (Code.compLoop e d it acc env) R s)
    (h : wpAny (model prog w) A (pyIter it) (fun it' s' => codeAny (model prog w) A (Code.compLoop e d it' acc env) R s') (notedBy (model prog w) A env fun x s' => R (Except.error x) s') s) :
    codeAny (model prog w) A (Code.compStart e d it acc env) R s := by
  refine codeAny_of_tree ?_
  rw [hun, hden]
  refine wpAny_notedAt ?_
  unfold compStart
  rw [hg]
  have z : ((some g).elim false fun x : Comprehension => x.is_async != 0) = false := by
    show (g.is_async != 0) = false
    rw [ha]
    rfl
  rw [z, if_neg (by decide)]
  refine wpAny_bind (wpAny_askSetting (wpAny_ite ?_))
  by_cases c : ({ program := (model prog w).prog, params := (model prog w).w.params } : Setting).params.followText "comprehension-iter-twice" = true
  · rw [if_pos c]
    exact wpAny_pure ⟨hq it, h0⟩
  · rw [if_neg c]
    refine wpAny_bind (wpAny_rule (wpAny_bind (wpAny_standAt (wpAny_bind (wpAny_mono h (fun it' s' h' => wpAny_pure ⟨hq it', h'⟩) fun _ _ z => z)))))
theorem lvl {Y : Cx} {pins : List (Addr × Obj)} {tg : Expr} {g : TG} {ifs : List Expr} {tt : TT} {J : It} {fp : List Addr} {it : Addr} {tn : Nat → Heap → Prop} (hc : Y.calm = true) (xe0 : Y.xe = fun _ _ => False) (T : Turn Y.prog Y.w Y.K tg J fp it tn) (pg : PG Y tg g) (pt : PTs Y ifs tt)
    {e : Expr} {d : Nat} {acc : Value} {p : Pos} {em : (Unit → Sem PySem.Fin) → Sem PySem.Fin} {R : Result → Shared → Prop}
    (hq : (Code.compLoop e d (.ref it) acc Y.env).quiet = true) (hun : Y.A.under (Code.compLoop e d (.ref it) acc Y.env) = Y.A) (hden : (model Y.prog Y.w).den (Code.compLoop e d (.ref it) acc Y.env) = Sem.onRaise (compTurn e d (.ref it) acc Y.env) fun x => do
      noteFrame x Y.env
      theTreesLotGoes x)
    (ht : compTurn e d (.ref it) acc Y.env = turnF p tg ifs em (Code.compLoop e d (.ref it) acc Y.env) (.ref it) Y.env)
    {EM : L2.St → Hp → (Hp → Prop) → Prop} {vs : List Nat} {σ0 : L2.St}
    (hem : ∀ (pins : List (Addr × Obj)) (s : Shared) (σ : L2.St) (H : Hp) (Nx : Hp → Prop) (Post : PySem.Fin → Shared → Prop) (E : Value → Shared → Prop), L2.Inv Y pins σ H s → EM σ H Nx → (∀ s' H', L2.Inv Y pins (wipe σ vs) H' s' → Nx H' → Post (Fin.again (Code.compLoop e d (.ref it) acc Y.env)) s') →
      wpAny (model Y.prog Y.w) Y.A (em fun _ => again (Code.compLoop e d (.ref it) acc Y.env)) Post E s)
    {W : Nat → Nat → Hp → Prop} {Qe : Hp → Prop}
    (turn : ∀ i m H, W i m H → (J.stop i H ∧ Qe H) ∨ (J.go i H ∧ ∃ Nx : Hp → Prop, (∀ H', Nx H' → ∃ m', m' < m ∧ W (i + 1) m' H') ∧ ∀ x H', J.yld i H x H' → g x (wipe σ0 vs) H' fun σ2 H2 => wipe σ2 vs = wipe σ0 vs ∧ tt σ2 H2 fun b H3 => if b = true then EM σ2 H3 Nx else Nx H3))
    (hR : ∀ s1 H, L2.Inv Y pins (wipe σ0 vs) H s1 → Qe H → R (Except.ok Flow.next) s1)
    {s : Shared} {H : Hp} {m : Nat} (I : L2.Inv Y pins (wipe σ0 vs) H s) (t0 : tn 0 s.heap) (hfp : ∀ b ∈ fp, FpOk Y pins H b) (w0 : W 0 m H) :
    codeAny (model Y.prog Y.w) Y.A (Code.compLoop e d (.ref it) acc Y.env) R s := by
  refine loopG hq hun hden ht (fun n s => ∃ i H, L2.Inv Y pins (wipe σ0 vs) H s ∧ tn i s.heap ∧ (∀ b ∈ fp, H b = none) ∧ W i n H) ?_ m ⟨0, H, I, t0, fun b hb => (hfp b hb).1, w0⟩
  rintro n s ⟨i, H1, I1, t1, nn, w1⟩
  have fpo : ∀ {H' : Hp}, (∀ b ∈ fp, H' b = none) → ∀ b ∈ fp, FpOk Y pins H' b := fun z b hb => ⟨z b hb, (hfp b hb).2⟩
  have no : ∀ {E : Value → Shared → Prop} (a : Value) (s : Shared), (fun _ _ => False : Value → Shared → Prop) a s → E a s := fun _ _ z => z.elim
  rcases turn i n H1 w1 with ⟨st, qe⟩ | ⟨go, Nx, nx, y⟩
  · refine wpAny_mono (T.done Y rfl rfl rfl hc i pins s _ H1 (fun _ _ => False) I1 (fpo nn) t1 st) (fun r s1 h1 => ?_) no
    obtain ⟨rfl, I2⟩ := h1
    exact hR s1 H1 I2 qe
  · refine wpAny_mono (T.item Y rfl rfl rfl hc i pins s _ H1 (fun _ _ => False) I1 (fpo nn) t1 go) (fun r s1 h1 => ?_) no
    obtain ⟨u, rfl, h1⟩ := h1
    refine wpAny_mono h1 (fun _ s2 h2 => ?_) no
    obtain ⟨x, H2, I2, rx, yl, t2, nn2⟩ := h2
    have P2 := I2.pinned (fpo nn2) (T.obj _ _ t2)
    have r3 := pg.run _ s2 _ H2 x u _ P2 rx (y x H2 yl)
    rw [xe0] at r3
    refine wpAny_mono r3 (fun _ s3 h3 => ?_) no
    obtain ⟨σ3, H3, I3, ew, h3⟩ := h3
    have r4 := pt.run _ s3 σ3 H3 _ I3 h3
    rw [xe0] at r4
    refine wpAny_mono r4 (fun ok s4 h4 => ?_) no
    obtain ⟨H4, I4, h4⟩ := h4
    have back : ∀ {s' : Shared} {H' : Hp}, L2.Inv Y (pins ++ pinsAt fp s2.heap) (wipe σ3 vs) H' s' → Nx H' → ∃ m, m < n ∧ ∃ i H, L2.Inv Y pins (wipe σ0 vs) H s' ∧ tn i s'.heap ∧ (∀ b ∈ fp, H b = none) ∧ W i m H := fun {s' H'} I' nx' => by
      obtain ⟨m', lm, w'⟩ := nx H' nx'
      have pin : ∀ b ∈ fp, ∀ o, s2.heap.get? b = some o → s'.heap.get? b = some o ∧ H' b = none := fun b hb o ho => by
        have := I'.pin (b, o) (List.mem_append.mpr (.inr (List.mem_append.mpr (.inr (mem_pinsAt hb ho)))))
        exact ⟨this.1, this.2.1⟩
      refine ⟨m', lm, i + 1, H', ?_, T.keep _ _ _ t2 fun b hb o ho => (pin b hb o ho).1, fun b hb => ?_, w'⟩
      · rw [← ew]
        exact I'.unpinned
      · obtain ⟨o, ho, _⟩ := T.obj _ _ t2 b hb
        exact (pin b hb o ho).2
    cases ok with
    | true =>
      rw [if_pos rfl] at h4 ⊢
      exact hem _ s4 σ3 H4 Nx _ _ I4 h4 fun s' H' I' n' => ⟨rfl, back I' n'⟩
    | false =>
      rw [if_neg (by decide)] at h4 ⊢
      exact back (I4.weak (wipe_length ..) fun _ _ z => (wipe_some z).1) h4
/-! ### what stands within a loop -/
def emL0 (elt : Expr) (acc : Value) (env : Env) : Sem Unit := do
  let x ← eval elt env
  let _ ← call (Value.builtin "list.append") [acc, x]
  pure ()
def emL (elt : Expr) (acc : Value) (env : Env) (k : Unit → Sem PySem.Fin) : Sem PySem.Fin := emL0 elt acc env >>= k
def emI (e : Expr) (d : Nat) (i1 : Expr) (acc : Value) (env : Env) (k : Unit → Sem PySem.Fin) : Sem PySem.Fin := do
  let x ← eval i1 env
  standAt i1.pos
  let x ← foldedSetIterable i1 env x
  let it ← holding [x] (pyIter x)
  let _ ← runOwn (Code.compStart e d it acc env) env
  k ()
abbrev EMT := L2.St → Hp → (Hp → Prop) → Prop
def tEm (te : TE) (D : Addr) : EMT := fun σ H Nx => te σ H fun y H4 => ∃ acc, H4 D = some (.lst acc) ∧ acc.length < sizeLine ∧ Nx (upd H4 D (.lst (acc ++ [y])))
def tTurns (J : It) (g : TG) (tt : TT) (vs : List Nat) (EM : EMT) (σ : L2.St) (Qe : Hp → Prop) (W : Nat → Nat → Hp → Prop) : Prop :=
  ∀ i m H, W i m H → (J.stop i H ∧ Qe H) ∨ (J.go i H ∧ ∃ Nx : Hp → Prop, (∀ H', Nx H' → ∃ m', m' < m ∧ W (i + 1) m' H') ∧ ∀ x H', J.yld i H x H' → g x (wipe σ vs) H' fun σ2 H2 => wipe σ2 vs = wipe σ vs ∧ tt σ2 H2 fun b H3 => if b = true then EM σ2 H3 Nx else Nx H3)
def tIn (wi : TI) (g : TG) (tt : TT) (vs : List Nat) (EM : EMT) : EMT := fun σ H Nx => wi σ H fun J H4 => ∃ W, (∃ m, W 0 m H4) ∧ tTurns J g tt vs EM σ Nx W
/-- an inner part runs -/
def Runs (Y : Cx) (vs : List Nat) (EM : EMT) (em : (Unit → Sem PySem.Fin) → Sem PySem.Fin) : Prop :=
  ∀ (pins : List (Addr × Obj)) (s : Shared) (σ : L2.St) (H : Hp) (Nx : Hp → Prop) (c : Code) (Post : PySem.Fin → Shared → Prop) (E : Value → Shared → Prop), L2.Inv Y pins σ H s → EM σ H Nx → (∀ s' H', L2.Inv Y pins (wipe σ vs) H' s' → Nx H' → Post (Fin.again c) s') →
    wpAny (model Y.prog Y.w) Y.A (em fun _ => again c) Post E s
theorem wipe_weak {Y : Cx} {pins : List (Addr × Obj)} {σ : L2.St} {H : Hp} {s : Shared} {vs vs1 : List Nat} (h : L2.Inv Y pins (wipe σ vs1) H s) (sub : ∀ i ∈ vs1, i ∈ vs) : L2.Inv Y pins (wipe σ vs) H s :=
  h.weak (by rw [wipe_length, wipe_length]) fun i v z => by
    obtain ⟨a, b⟩ := wipe_some z
    rw [wipe_out fun m => b (sub i m)]
    exact a
theorem runs_app {Y : Cx} (xe0 : Y.xe = fun _ _ => False) {elt : Expr} {te : TE} {D : Addr} (vs : List Nat) (pe : PE Y elt te) : Runs Y vs (tEm te D) (emL elt (.ref D) Y.env) := by
  intro pins s σ H Nx c Post E I h k
  unfold emL emL0
  have r := pe.run pins s σ H _ I h
  rw [xe0] at r
  refine wpAny_bind (wpAny_bind (wpAny_mono r (fun v s1 h1 => ?_) fun _ _ z => z.elim))
  obtain ⟨y, H1, I1, ry, acc, hD, few, nx⟩ := h1
  refine wpAny_bind (app_ok I1 hD few ry fun s2 I2 => ?_)
  refine wpAny_pure (wpAny_pure (k s2 _ (I2.weak (wipe_length ..) fun _ _ z => (wipe_some z).1) nx))
theorem runs_in {Y : Cx} (hc : Y.calm = true) (xe0 : Y.xe = fun _ _ => False) {e : Expr} {d : Nat} {acc : Value} {tg i1 : Expr} {ifs : List Expr} {wi : TI} {g : TG} {tt : TT} {vs vs1 : List Nat} {EM : EMT} {p : Pos} {em : (Unit → Sem PySem.Fin) → Sem PySem.Fin} {gc : Comprehension}
    (sub : ∀ i ∈ vs1, i ∈ vs) (pi : PI Y tg i1 wi) (pg : PG Y tg g) (pt : PTs Y ifs tt) (hem : Runs Y vs1 EM em) (hs : ∀ x, foldedSetIterable i1 Y.env x = pure x)
    (hq : ∀ it, (Code.compLoop e d it acc Y.env).quiet = true) (hun : ∀ it, Y.A.under (Code.compLoop e d it acc Y.env) = Y.A) (hden : ∀ it, (model Y.prog Y.w).den (Code.compLoop e d it acc Y.env) = Sem.onRaise (compTurn e d it acc Y.env) fun x => do
      noteFrame x Y.env
      theTreesLotGoes x)
    (hunS : ∀ it, Y.A.under (Code.compStart e d it acc Y.env) = Y.A) (hdenS : ∀ it, (model Y.prog Y.w).den (Code.compStart e d it acc Y.env) = Sem.onRaise (compStart e d it acc Y.env) fun x => do
      noteFrame x Y.env
      standAt theWindowsPlace)
    (hg : (clausesOf e)[d]? = some gc) (ha : gc.is_async = 0)
    (ht : ∀ it, compTurn e d it acc Y.env = turnF p tg ifs em (Code.compLoop e d it acc Y.env) it Y.env) : Runs Y vs (tIn wi g tt vs1 EM) (emI e d i1 acc Y.env) := by
  intro pins s σ H Nx c Post E I h k
  unfold emI
  have r := pi.run pins s σ H _ I h
  rw [xe0] at r
  refine wpAny_bind (wpAny_mono r (fun v s1 h1 => ?_) fun _ _ z => z.elim)
  refine wpAny_bind (wpAny_standAt ?_)
  rw [hs]
  refine wpAny_bind (wpAny_pure (wpAny_bind (wpAny_holding (wpAny_mono h1 (fun itv s2 h2 => ?_) fun _ _ z => z.elim))))
  obtain ⟨it, fp, tn, J, H2, rfl, I2, T, t0, hfp, W, ⟨m0, w0⟩, turns⟩ := h2
  refine wpAny_bind (wpAny_runOwn ?_)
  have loop := lvl (R := fun r s' => match r with | Except.ok f => wpAny (model Y.prog Y.w) Y.A (again c) Post E s' | Except.error e => False) hc xe0 T pg pt (hq _) (hun _) (hden _) (ht _) (EM := EM) (vs := vs1) (σ0 := σ) (fun pins s σ H Nx Post E I h k => hem pins s σ H Nx _ Post E I h k) turns
    (fun s1 H1 I1 q1 => wpAny_pure (k s1 H1 (wipe_weak I1 sub) q1)) (I2.weak (wipe_length ..) fun _ _ z => (wipe_some z).1) t0 hfp w0
  show codeAny _ Y.A _ _ _
  refine codeAny_mono (startG hq (hunS _) (hdenS _) hg ha loop (T.self Y.A 0 s2 _ _ t0 loop)) fun r s3 h3 => ?_
  cases r with
  | ok f => exact h3
  | error e => exact h3.elim
def tLcG (wi : TI) (g : TG) (tt : TT) (EM : Addr → EMT) (vs : List Nat) : TE := fun σ H Q => wi σ H fun J H1 => ∀ D : Addr, H1 D = none → ∃ W, (∃ m, W 0 m (upd H1 D (.lst []))) ∧ tTurns J g tt vs (EM D) σ (fun H => Q (.ref D) H) W
theorem pe_lcG {X : Cx} {elt tg iter : Expr} {ifs : List Expr} {rest : List Comprehension} {scope : Scope} {own : List (Str × Nat)} {pos p : Pos} {wi : TI} {g : TG} {tt : TT} {EM : Addr → EMT} {em : Value → Env → (Unit → Sem PySem.Fin) → Sem PySem.Fin}
    (hc : X.calm = true) (hN : X.N.Nodup) (hi : PI X tg iter wi) (ok : BlkOk X.N X.env.scope scope own)
    (hg : ∀ (s : Shared) (H : Hp) (C : Addr) (cl : List (Str × Addr)) (fp : List Addr), PG (X.blk s H scope (compEnvC scope cl C X.env) fp) tg g)
    (ht : ∀ (s : Shared) (H : Hp) (C : Addr) (cl : List (Str × Addr)) (fp : List Addr), PTs (X.blk s H scope (compEnvC scope cl C X.env) fp) ifs tt)
    (hem : ∀ (s : Shared) (H : Hp) (C : Addr) (cl : List (Str × Addr)) (fp : List Addr) (D : Addr), Runs (X.blk s H scope (compEnvC scope cl C X.env) fp) (own.map (·.2)) (EM D) (em (.ref D) (compEnvC scope cl C X.env)))
    (turn : ∀ it acc env, compTurn (.ListComp elt (⟨tg, iter, ifs, 0⟩ :: rest) scope pos) 0 it acc env = turnF p tg ifs (em acc env) (Code.compLoop (.ListComp elt (⟨tg, iter, ifs, 0⟩ :: rest) scope pos) 0 it acc env) it env)
    (hs : ∀ x, foldedSetIterable iter X.env x = pure x) : PE X (.ListComp elt (⟨tg, iter, ifs, 0⟩ :: rest) scope pos) (tLcG wi g tt EM (own.map (·.2))) := by
  refine ⟨fun pins s σ H Q I h => ?_⟩
  rw [eval_ListComp]
  have hfree : ∀ y ∈ scope.names, y.2 = NameKind.free → ∃ c, List.lookup y.1 X.env.cells = some c := fun y hy e => (ok.free y hy e).elim (fun k => I.ok.has y.1 (.inl k)) fun k => I.ok.has y.1 (.inr k)
  refine wpAny_comprehension_free rfl hs (closure_ok hfree) ok.kind (fun y hy e => by rw [ok.uniq y hy, e]) ?_
  refine wpAny_mono (hi.run pins s σ H _ I h) (fun xv s1 hx => ?_) fun _ _ z => z
  refine wpAny_mono hx (fun itv s2 h2 => ?_) fun _ _ z => z
  obtain ⟨it, fp, tn, J, H2, rfl, I2, T, t2, f2, q⟩ := h2
  refine wpAny_newObj_type (newEnv_comp ?_)
  have hDn : H2 s2.heap.objs.size = none := I2.hok.fresh (Nat.le_refl _)
  obtain ⟨W, ⟨m0, w0⟩, turns⟩ := q _ hDn
  have I3 : L2.Inv X pins σ (upd H2 s2.heap.objs.size (.lst [])) { s2 with heap := s2.heap.push { cls := .type "list", data := .seq #[] } } :=
    I2.laid (fun b o e => Heap.get?_push_of_some _ e) (Nat.le_refl _) ⟨Nat.zero_le _, [], 0, .nil, Heap.get?_push_size _ rfl⟩
  generalize es3 : ({ s2 with heap := s2.heap.push { cls := .type "list", data := .seq #[] } } : Shared) = s3 at I3 ⊢
  have h3 : s3.heap = s2.heap.push { cls := .type "list", data := .seq #[] } := by rw [← es3]
  have f3 : ∀ b ∈ fp, FpOk X pins (upd H2 s2.heap.objs.size (.lst [])) b ∧ b < s3.heap.objs.size := fun b hb => by
    obtain ⟨o, ho, _⟩ := T.obj 0 _ t2 b hb
    have lt := Heap.lt_size ho
    refine ⟨⟨?_, (f2 b hb).2⟩, ?_⟩
    · rw [upd_ne (Nat.ne_of_lt lt)]
      exact (f2 b hb).1
    · rw [h3, Heap.size_push]
      exact Nat.lt_succ_of_lt lt
  have st3 : tn 0 s3.heap := T.keep 0 _ _ t2 fun b _ o e => by
    rw [h3]
    exact Heap.get?_push_of_some _ e
  have I4 := block_start I3 ok hN f3
  have st4 := T.keep 0 _ (pushCells (s3.heap.push { cls := .type "dict", data := .dict #[] }) scope.names) st3 fun b _ o e => pushCells_keeps scope.names _ b o (Heap.get?_push_of_some _ e)
  clear es3
  generalize s2.heap.objs.size = D at *
  show codeAny (model X.prog X.w) X.A (Code.compStart _ 0 (.ref it) (.ref D) (compEnvC scope (cellsFrom (s3.heap.objs.size + 1) scope.names (cloFrom X.env.cells scope.names [])) s3.heap.objs.size X.env)) _ _
  have loop := lvl (Y := X.blk s3 (upd H2 D (.lst [])) scope (compEnvC scope (cellsFrom (s3.heap.objs.size + 1) scope.names (cloFrom X.env.cells scope.names [])) s3.heap.objs.size X.env) fp) (R := compPost (model X.prog X.w) X.A X.xe none (EP X pins σ Q) (.ref D) s3.heap.objs.size) (e := .ListComp elt (⟨tg, iter, ifs, 0⟩ :: rest) scope pos) (d := 0) (acc := .ref D) hc rfl T (hg _ _ _ _ _) (ht _ _ _ _ _) rfl rfl rfl (turn _ _ _) (EM := EM D) (vs := List.map (fun x : Str × Nat => x.2) own) (σ0 := σ) (W := W) (Qe := fun H => Q (.ref D) H)
    (fun pins s σ H Nx Post E I h k => hem _ _ _ _ _ D pins s σ H Nx _ Post E I h k) turns (fun s6 H5 I6 q6 => ?_) I4 st4 (fun b hb => ⟨(f3 b hb).1.1, (I4.ok.exf b hb).1, I4.ok.exfs b hb, .inl hb, (I4.ok.exf b hb).2, fun p hp => by cases hp⟩) w0
  · exact codeAny_compStart_list loop (T.self X.A 0 _ _ _ st4 loop)
  · have I7 := Inv.call' I3 I6.os I6.base I6.hok I6.bare fun b hb => ⟨(f3 b hb).1.2.2.2.1, (f3 b hb).1.2.1, (f3 b hb).1.2.2.2.2.1, (f3 b hb).1.2.2.2.2.2⟩
    obtain ⟨m, hn, _⟩ := I6.loc
    obtain ⟨a0, a1, a2, a3, a4, a5⟩ := Inv.fpOk I3 (Nat.le_refl _) I6.free
    exact ⟨m, hn, fun h' sb => ⟨.ref D, H5, Inv.turned I7 (fun b o hb e => (sb.2 b hb).trans e) a0 a1 a3 a4 a5, rfl, q6⟩⟩
/-- [e for a in xs for b in ys for c in zs] -/
theorem pe_lc3 {X : Cx} {elt tg iter tg1 iter1 tg2 iter2 : Expr} {ifs ifs1 ifs2 : List Expr} {scope : Scope} {own : List (Str × Nat)} {vs1 vs2 : List Nat} {pos : Pos} {wi wi1 wi2 : TI} {g g1 g2 : TG} {tt tt1 tt2 : TT} {te : TE}
    (hc : X.calm = true) (hN : X.N.Nodup) (hi : PI X tg iter wi) (ok : BlkOk X.N X.env.scope scope own) (hv1 : ∀ i ∈ vs1, i ∈ List.map (fun x : Str × Nat => x.2) own) (hv2 : ∀ i ∈ vs2, i ∈ vs1)
    (hg : ∀ (s : Shared) (H : Hp) (C : Addr) (cl : List (Str × Addr)) (fp : List Addr), PG (X.blk s H scope (compEnvC scope cl C X.env) fp) tg g)
    (ht : ∀ (s : Shared) (H : Hp) (C : Addr) (cl : List (Str × Addr)) (fp : List Addr), PTs (X.blk s H scope (compEnvC scope cl C X.env) fp) ifs tt)
    (hi1 : ∀ (s : Shared) (H : Hp) (C : Addr) (cl : List (Str × Addr)) (fp : List Addr), PI (X.blk s H scope (compEnvC scope cl C X.env) fp) tg1 iter1 wi1)
    (hg1 : ∀ (s : Shared) (H : Hp) (C : Addr) (cl : List (Str × Addr)) (fp : List Addr), PG (X.blk s H scope (compEnvC scope cl C X.env) fp) tg1 g1)
    (ht1 : ∀ (s : Shared) (H : Hp) (C : Addr) (cl : List (Str × Addr)) (fp : List Addr), PTs (X.blk s H scope (compEnvC scope cl C X.env) fp) ifs1 tt1)
    (hi2 : ∀ (s : Shared) (H : Hp) (C : Addr) (cl : List (Str × Addr)) (fp : List Addr), PI (X.blk s H scope (compEnvC scope cl C X.env) fp) tg2 iter2 wi2)
    (hg2 : ∀ (s : Shared) (H : Hp) (C : Addr) (cl : List (Str × Addr)) (fp : List Addr), PG (X.blk s H scope (compEnvC scope cl C X.env) fp) tg2 g2)
    (ht2 : ∀ (s : Shared) (H : Hp) (C : Addr) (cl : List (Str × Addr)) (fp : List Addr), PTs (X.blk s H scope (compEnvC scope cl C X.env) fp) ifs2 tt2)
    (he : ∀ (s : Shared) (H : Hp) (C : Addr) (cl : List (Str × Addr)) (fp : List Addr), PE (X.blk s H scope (compEnvC scope cl C X.env) fp) elt te)
    (hs : ∀ x, foldedSetIterable iter X.env x = pure x := by intro _; rfl) (hs1 : ∀ env x, foldedSetIterable iter1 env x = pure x := by intro _ _; rfl) (hs2 : ∀ env x, foldedSetIterable iter2 env x = pure x := by intro _ _; rfl) :
    PE X (.ListComp elt [⟨tg, iter, ifs, 0⟩, ⟨tg1, iter1, ifs1, 0⟩, ⟨tg2, iter2, ifs2, 0⟩] scope pos) (tLcG wi g tt (fun D => tIn wi1 g1 tt1 vs1 (tIn wi2 g2 tt2 vs2 (tEm te D))) (own.map (·.2))) := by
  refine pe_lcG (em := fun acc env => emI (.ListComp elt [⟨tg, iter, ifs, 0⟩, ⟨tg1, iter1, ifs1, 0⟩, ⟨tg2, iter2, ifs2, 0⟩] scope pos) 1 iter1 acc env) hc hN hi ok hg ht (fun s H C cl fp D => ?_) (fun _ _ _ => rfl) hs
  refine runs_in (Y := X.blk s H scope (compEnvC scope cl C X.env) fp) (gc := ⟨tg1, iter1, ifs1, 0⟩) hc rfl hv1 (hi1 s H C cl fp) (hg1 s H C cl fp) (ht1 s H C cl fp) (em := fun k => emI (.ListComp elt [⟨tg, iter, ifs, 0⟩, ⟨tg1, iter1, ifs1, 0⟩, ⟨tg2, iter2, ifs2, 0⟩] scope pos) 2 iter2 (.ref D) (compEnvC scope cl C X.env) k) ?_ (hs1 _) (fun _ => rfl) (fun _ => rfl) (fun _ => rfl) (fun _ => rfl) (fun _ => rfl) rfl rfl (fun _ => rfl)
  refine runs_in (Y := X.blk s H scope (compEnvC scope cl C X.env) fp) (gc := ⟨tg2, iter2, ifs2, 0⟩) hc rfl hv2 (hi2 s H C cl fp) (hg2 s H C cl fp) (ht2 s H C cl fp) (em := fun k => emL elt (.ref D) (compEnvC scope cl C X.env) k) ?_ (hs2 _) (fun _ => rfl) (fun _ => rfl) (fun _ => rfl) (fun _ => rfl) (fun _ => rfl) rfl rfl (fun _ => rfl)
  exact runs_app rfl vs2 (he s H C cl fp)
/-- [e for a in xs for b in ys] -/
theorem pe_lcD {X : Cx} {elt tg iter tg1 iter1 : Expr} {ifs ifs1 : List Expr} {scope : Scope} {own : List (Str × Nat)} {vs1 : List Nat} {pos : Pos} {wi wi1 : TI} {g g1 : TG} {tt tt1 : TT} {te : TE}
    (hc : X.calm = true) (hN : X.N.Nodup) (hi : PI X tg iter wi) (ok : BlkOk X.N X.env.scope scope own) (hv1 : ∀ i ∈ vs1, i ∈ List.map (fun x : Str × Nat => x.2) own)
    (hg : ∀ (s : Shared) (H : Hp) (C : Addr) (cl : List (Str × Addr)) (fp : List Addr), PG (X.blk s H scope (compEnvC scope cl C X.env) fp) tg g)
    (ht : ∀ (s : Shared) (H : Hp) (C : Addr) (cl : List (Str × Addr)) (fp : List Addr), PTs (X.blk s H scope (compEnvC scope cl C X.env) fp) ifs tt)
    (hi1 : ∀ (s : Shared) (H : Hp) (C : Addr) (cl : List (Str × Addr)) (fp : List Addr), PI (X.blk s H scope (compEnvC scope cl C X.env) fp) tg1 iter1 wi1)
    (hg1 : ∀ (s : Shared) (H : Hp) (C : Addr) (cl : List (Str × Addr)) (fp : List Addr), PG (X.blk s H scope (compEnvC scope cl C X.env) fp) tg1 g1)
    (ht1 : ∀ (s : Shared) (H : Hp) (C : Addr) (cl : List (Str × Addr)) (fp : List Addr), PTs (X.blk s H scope (compEnvC scope cl C X.env) fp) ifs1 tt1)
    (he : ∀ (s : Shared) (H : Hp) (C : Addr) (cl : List (Str × Addr)) (fp : List Addr), PE (X.blk s H scope (compEnvC scope cl C X.env) fp) elt te)
    (hs : ∀ x, foldedSetIterable iter X.env x = pure x := by intro _; rfl) (hs1 : ∀ env x, foldedSetIterable iter1 env x = pure x := by intro _ _; rfl) :
    PE X (.ListComp elt [⟨tg, iter, ifs, 0⟩, ⟨tg1, iter1, ifs1, 0⟩] scope pos) (tLcG wi g tt (fun D => tIn wi1 g1 tt1 vs1 (tEm te D)) (own.map (·.2))) := by
  refine pe_lcG (em := fun acc env => emI (.ListComp elt [⟨tg, iter, ifs, 0⟩, ⟨tg1, iter1, ifs1, 0⟩] scope pos) 1 iter1 acc env) hc hN hi ok hg ht (fun s H C cl fp D => ?_) (fun _ _ _ => rfl) hs
  refine runs_in (Y := X.blk s H scope (compEnvC scope cl C X.env) fp) (gc := ⟨tg1, iter1, ifs1, 0⟩) hc rfl hv1 (hi1 s H C cl fp) (hg1 s H C cl fp) (ht1 s H C cl fp) (em := fun k => emL elt (.ref D) (compEnvC scope cl C X.env) k) ?_ (hs1 _) (fun _ => rfl) (fun _ => rfl) (fun _ => rfl) (fun _ => rfl) (fun _ => rfl) rfl rfl (fun _ => rfl)
  exact runs_app rfl vs1 (he s H C cl fp)
theorem pi_tupK {X : Cx} {tg l : Expr} {tl : TE} {K : PySem.W.Frag} (hk : X.K = K) (h : PE X l tl) : PI X tg l (iTup K tl) := by
  subst hk
  exact pi_tup h
/-! ### readings -/
theorem turns_range {lo : Int} {n : Nat} {g : TG} {tt : TT} {vs : List Nat} {EM : EMT} {σ : L2.St} {H0 : Hp} {Qe : Hp → Prop} (Z : Nat → Hp → Prop) (z0 : Z 0 H0)
    (step : ∀ (i : Nat) (H : Hp), i < n → Z i H → g (.int (lo + (i : Int))) (wipe σ vs) H fun σ2 H2 => wipe σ2 vs = wipe σ vs ∧ tt σ2 H2 fun b H3 => if b = true then EM σ2 H3 (Z (i + 1)) else Z (i + 1) H3)
    (done : ∀ H, Z n H → Qe H) : ∃ W, (∃ m, W 0 m H0) ∧ tTurns (Itr lo n) g tt vs EM σ Qe W := by
  refine ⟨fun i m H => i ≤ n ∧ m = n - i ∧ Z i H, ⟨n, Nat.zero_le _, rfl, z0⟩, ?_⟩
  rintro i m H ⟨le, rfl, z⟩
  by_cases e : i = n
  · exact .inl ⟨Nat.le_of_eq e.symm, done H (e ▸ z)⟩
  · have lt : i < n := by omega
    refine .inr ⟨lt, Z (i + 1), fun H' z' => ⟨n - (i + 1), by omega, by omega, rfl, z'⟩, ?_⟩
    rintro x H' ⟨rfl, rfl⟩
    exact step i H' lt z
theorem turns_list {K : PySem.W.Frag} {a : Addr} {xs : List V} {g : TG} {tt : TT} {vs : List Nat} {EM : EMT} {σ : L2.St} {H0 : Hp} {Qe : Hp → Prop} (Z : Nat → Hp → Prop) (z0 : Z 0 H0) (keep : ∀ (i : Nat) (H : Hp), i ≤ xs.length → Z i H → SqL K H a xs)
    (step : ∀ (i : Nat) (x : V) (H : Hp), xs[i]? = some x → Z i H → g x (wipe σ vs) H fun σ2 H2 => wipe σ2 vs = wipe σ vs ∧ tt σ2 H2 fun b H3 => if b = true then EM σ2 H3 (Z (i + 1)) else Z (i + 1) H3)
    (done : ∀ H, Z xs.length H → Qe H) : ∃ W, (∃ m, W 0 m H0) ∧ tTurns (Itl K a) g tt vs EM σ Qe W := by
  refine ⟨fun i m H => i ≤ xs.length ∧ m = xs.length - i ∧ Z i H, ⟨_, Nat.zero_le _, rfl, z0⟩, ?_⟩
  rintro i m H ⟨le, rfl, z⟩
  by_cases e : i = xs.length
  · exact .inl ⟨⟨xs, keep i H le z, Nat.le_of_eq e.symm⟩, done H (e ▸ z)⟩
  · have lt : i < xs.length := by omega
    refine .inr ⟨⟨xs, xs[i], keep i H le z, List.getElem?_eq_getElem lt⟩, Z (i + 1), fun H' z' => ⟨xs.length - (i + 1), by omega, by omega, rfl, z'⟩, ?_⟩
    rintro x H' ⟨rfl, hx⟩
    exact step i x H' (hx xs (keep i H' le z)) z
theorem turns_tup {K : PySem.W.Frag} {a : Addr} {xs : List V} {g : TG} {tt : TT} {vs : List Nat} {EM : EMT} {σ : L2.St} {H0 : Hp} {Qe : Hp → Prop} (Z : Nat → Hp → Prop) (z0 : Z 0 H0) (keep : ∀ (i : Nat) (H : Hp), i ≤ xs.length → Z i H → SqT K H a xs)
    (step : ∀ (i : Nat) (x : V) (H : Hp), xs[i]? = some x → Z i H → g x (wipe σ vs) H fun σ2 H2 => wipe σ2 vs = wipe σ vs ∧ tt σ2 H2 fun b H3 => if b = true then EM σ2 H3 (Z (i + 1)) else Z (i + 1) H3)
    (done : ∀ H, Z xs.length H → Qe H) : ∃ W, (∃ m, W 0 m H0) ∧ tTurns (Itt K a) g tt vs EM σ Qe W := by
  refine ⟨fun i m H => i ≤ xs.length ∧ m = xs.length - i ∧ Z i H, ⟨_, Nat.zero_le _, rfl, z0⟩, ?_⟩
  rintro i m H ⟨le, rfl, z⟩
  by_cases e : i = xs.length
  · exact .inl ⟨⟨xs, keep i H le z, Nat.le_of_eq e.symm⟩, done H (e ▸ z)⟩
  · have lt : i < xs.length := by omega
    refine .inr ⟨⟨xs, xs[i], keep i H le z, List.getElem?_eq_getElem lt⟩, Z (i + 1), fun H' z' => ⟨xs.length - (i + 1), by omega, by omega, rfl, z'⟩, ?_⟩
    rintro x H' ⟨rfl, hx⟩
    exact step i x H' (hx xs (keep i H' le z)) z
end Vx
namespace Vx
open PySem PySem.Spec PyProof.Rows L2
/-! ### the values of a dict whose keys are tuples -/
def ItvT (d : Addr) (o : Obj) (kvs : List (List L2.Key × V)) : It where
  go i H := H d = some (.frz o (.dT kvs)) ∧ i < kvs.length
  yld i H x H' := H' = H ∧ ∃ k, kvs[i]? = some (k, x)
  stop i H := H d = some (.frz o (.dT kvs)) ∧ kvs.length ≤ i
section
variable {P : Program} {w : World} {K : PySem.W.Frag} {d : Addr} {o : Obj} {es : Array DictEntry} {ep : Nat} {tg : Expr}
theorem turn_valsT {kvs : List (List L2.Key × V)} (it : Addr) (hod : o.data = .dict es ep) : Turn P w K tg (ItvT d o kvs) [it] it (fun i h => h.IsValIter it d i kvs.length ep) where
  mem := List.mem_singleton.mpr rfl
  obj := fun i h st b hb => by
    obtain ⟨oi, e, _, dd⟩ := st
    rw [List.mem_singleton.mp hb]
    exact ⟨oi, e, fun v z => by rw [dd] at z; cases z⟩
  keep := fun i h h' st k => by
    obtain ⟨oi, e, r⟩ := st
    exact ⟨oi, k it (List.mem_singleton.mpr rfl) _ e, r⟩
  item := by
    intro X hP hw hK hc i pins s σ H E I hf st hg
    subst hP hw hK
    obtain ⟨hd, hi⟩ := hg
    obtain ⟨f0, f1, f2, f3, f4, f5⟩ := hf it (List.mem_singleton.mpr rfl)
    obtain ⟨hs, hgd, hx, es', ep', hdt, hsz, ent⟩ := frzT2 I hd
    obtain ⟨rfl, rfl⟩ := dict_ep hod hdt
    obtain ⟨⟨k, v⟩, hkv⟩ : ∃ p, kvs[i]? = some p := ⟨kvs[i], List.getElem?_eq_getElem hi⟩
    obtain ⟨en, q, hen, hkey, hq, rv⟩ := ent i k v hkv
    have hi' : i < es'.size := by
      rw [hsz]
      exact hi
    have een : es'[i] = en := by
      rw [Array.getElem?_eq_getElem hi'] at hen
      exact Option.some.inj hen
    rw [← hsz] at st
    refine PySem.wpAny_pyNext_values_item_raw st ⟨o, hgd, hx, hdt⟩ hi' fun h' st' sb => ?_
    rw [een]
    have I1 : Inv X pins σ H { s with heap := h' } := I.turned (t' := s.toks) (fun b ob hb e => (sb.2 b hb).trans e) f0 f1 f3 f4 f5
    obtain ⟨oi, e, c, dd⟩ := id st'
    refine ⟨en.val, rfl, go_of (s := { s with heap := h' }) e c dd (by decide) ⟨v, H, I1, rv, ⟨rfl, k, hkv⟩, ?_, fun b hb => (hf b hb).1⟩⟩
    show h'.IsValIter it d (i + 1) kvs.length _
    rw [← hsz]
    exact st'
  done := by
    intro X hP hw hK hc i pins s σ H E I hf st hg
    subst hP hw hK
    obtain ⟨hd, hi⟩ := hg
    obtain ⟨f0, f1, f2, f3, f4, f5⟩ := hf it (List.mem_singleton.mpr rfl)
    obtain ⟨hs, hgd, hx, es', ep', hdt, hsz, ent⟩ := frzT2 I hd
    obtain ⟨rfl, rfl⟩ := dict_ep hod hdt
    rw [← hsz] at st
    exact PySem.wpAny_pyNext_values_end_raw (I.ok.hd hc) st ⟨o, hgd, hx, hdt⟩ (by omega) fun h' eb => ⟨rfl, I.turned (t' := s.toks) (fun b ob hb e => eb b ob hb e) f0 f1 f3 f4 f5⟩
  self := fun A i s Q E st h => wpAny_pyIter_valiter st h
end
def iValsT (td : TE) : TI := fun σ H R => td σ H fun x H1 => ∃ d o kvs, x = .ref d ∧ H1 d = some (.frz o (.dT kvs)) ∧ R (ItvT d o kvs) H1
theorem pi_valuesT {X : Cx} {tg e : Expr} {td : TE} {apos cpos : Pos} (he : PE X e td) (hbase : attributeBase e "values" X.env (eval e X.env) = eval e X.env := by rfl) (hline : (apos.endLine == cpos.line) = true := by rfl) :
    PI X tg (.Call (.Attribute e "values" apos) [] [] cpos) (iValsT td) := by
  refine ⟨fun pins s σ H R I h => ?_⟩
  refine wpAny_Call_method (T := "dict") (id := "dict.values") hbase rfl hline F.plainAttrs_dict F.slot_dict_values F.type_dict_values (thn (he.run pins s σ H _ I h) fun u s1 ⟨x, H1, I1, rx, d, o, kvs, ex, hd, q⟩ => ?_)
  subst ex
  obtain rfl : u = Value.ref d := rx
  obtain ⟨hs, hgd, hx, es, ep, hdt, hsz, ent⟩ := frzT2 I1 hd
  have raw : DT.Raw s1.heap d es ep := ⟨o, hgd, hx, hdt⟩
  have raw2 : s1.heap.DictRaw d es ep := ⟨o, hgd, hx, hdt⟩
  refine ⟨raw.typeIs, (fun a ea => by cases ea; exact ⟨o, hgd, hx.2.1⟩), ?_⟩
  have I2 : Inv X pins σ H1 { s1 with heap := s1.heap.push { cls := .type "dict_values", data := .fields #[.ref d] } } := I1.kept (t' := s1.toks) fun b ob q => Heap.get?_push_of_some _ q
  have fin : wpAny (model X.prog X.w) X.A (pyIter (.ref s1.heap.objs.size)) (PIE X pins σ tg R) X.xe { s1 with heap := s1.heap.push { cls := .type "dict_values", data := .fields #[.ref d] } } := by
    refine PySem.wpAny_pyIter_values_raw (d := d) (es := es) (ep := ep) ⟨_, Heap.get?_push_size _ rfl, rfl, rfl⟩ ⟨o, Heap.get?_push_of_some _ hgd, hx, hdt⟩ (pi_one (tk := s1.toks) I2 _ (turn_valsT _ hdt) ⟨_, Heap.get?_push_size _ rfl, rfl, ?_⟩ q)
    rw [hsz] <;> rfl
  show wpAny _ _ (callWith cpos (.builtin "dict.values") [.ref d] [] []) _ X.xe s1
  exact method_meetsIn F.slot_dict_values F.entry_dict_values rfl (PySem.evalArgs_none ⟨rfl, raw.typeIs, F.args_dict_values_1 _, _, PySem.meets_dict_values_raw d hs, ⟨⟨es, ep, raw2⟩, fin⟩⟩)
theorem walk_valuesT {d : Addr} {o : Obj} {kvs : List (List L2.Key × V)} : Walk (ItvT d o kvs) kvs.length (fun H => H d = some (.frz o (.dT kvs))) (fun i H x H' => H' = H ∧ ∃ k, kvs[i]? = some (k, x)) :=
  ⟨fun _ _ hi q => ⟨q, hi⟩, fun _ q => ⟨q, Nat.le_refl _⟩, fun _ _ _ _ _ _ y => y⟩
/-! ### a field, and a join, within a comprehension -/
theorem pe_fldK {X : Cx} {K : PySem.W.Frag} {e : Expr} {f : Str} {pos : Pos} {ta : TE} (hk : X.K = K) (he : PE X e ta) (hb : attributeBase e f X.env (eval e X.env) = eval e X.env) : PE X (.Attribute e f pos) (tFld K ta f) := by
  subst hk
  exact pe_fld he hb
def tJoinK (K : PySem.W.Frag) (to te : TE) : TE := tM1 (fun x xs H Q => ∃ a p, ∃ ys : List Str, x = .str a ∧ xs = [.ref p] ∧ (SqL K H p (ys.map V.str) ∨ SqT K H p (ys.map V.str)) ∧
      (ys.map (·.length)).sum + ys.length * a.length ≤ 16777216 ∧ Q (.str (Txt.join a ys)) H) to te
theorem pe_joinK {X : Cx} {K : PySem.W.Frag} {o e : Expr} {to te : TE} {apos pos : Pos} (hk : X.K = K) (ho : PE X o to) (he : PE X e te) (hs : starEach [e] X.env = [(false, eval e X.env)] := by rfl) (hbase : attributeBase o "join" X.env (eval o X.env) = eval o X.env := by rfl) (hline : (apos.endLine == pos.line) = true := by rfl) :
    PE X (.Call (.Attribute o "join" apos) [e] [] pos) (tJoinK K to te) := by
  subst hk
  exact pe_join ho he hs hbase hline
/-! ### a loop of a comprehension with two loops, over a range -/
theorem lc2_range {lo : Int} {n : Nat} {g : TG} {tt : TT} {vs : List Nat} {EM : L2.St → Hp → (Hp → Prop) → Prop} {σ : L2.St} {H0 : Hp} {Qe : Hp → Prop} (Z : Nat → Hp → Prop) (z0 : Z 0 H0)
    (step : ∀ (i : Nat) (H : Hp), i < n → Z i H → g (.int (lo + (i : Int))) (wipe σ vs) H fun σ2 H2 => wipe σ2 vs = wipe σ vs ∧ tt σ2 H2 fun b H3 => if b = true then EM σ2 H3 (Z (i + 1)) else Z (i + 1) H3)
    (done : ∀ H, Z n H → Qe H) : ∃ W : Nat → Nat → Hp → Prop, (∃ m, W 0 m H0) ∧ ∀ i m H, W i m H →
      ((Itr lo n).stop i H ∧ Qe H) ∨ ((Itr lo n).go i H ∧ ∃ Nx : Hp → Prop, (∀ H', Nx H' → ∃ m', m' < m ∧ W (i + 1) m' H') ∧ ∀ x H', (Itr lo n).yld i H x H' → g x (wipe σ vs) H' fun σ2 H2 => wipe σ2 vs = wipe σ vs ∧ tt σ2 H2 fun b H3 =>
        if b = true then EM σ2 H3 Nx else Nx H3) := turns_range Z z0 step done
end Vx
namespace Vx
open PySem PySem.Spec PyProof.Rows L2
/-! ### the least one of some lists of pairs -/
def ltL (a b : List Pr) : Bool := W.dataLt (lp a) (lp b)
theorem toksAll_inj : ∀ (a b : List Pr), W.keyToksAll (a.map pd) = W.keyToksAll (b.map pd) → a = b
  | [], [], _ => rfl
  | [], y :: b, h => by simp [W.keyToksAll] at h
  | x :: a, [], h => by simp [W.keyToksAll] at h
  | x :: a, y :: b, h => by
    obtain ⟨x1, x2⟩ := x
    obtain ⟨y1, y2⟩ := y
    simp [W.keyToksAll, W.keyToks, pd] at h
    obtain ⟨h1, h2, h3⟩ := h
    rw [h1, h2, toksAll_inj a b h3]
theorem lp_inj {a b : List Pr} (h : lp a = lp b) : a = b := by
  have : PyData.eqv (lp a) (lp b) = true := by
    rw [h, eqv_lp]
    exact decide_eq_true rfl
  rw [eqv_lp] at this
  exact of_decide_eq_true this
theorem ltL_irr (a : List Pr) : ltL a a = false := lex_irrefl _
theorem ltL_trans {a b c : List Pr} (h : ltL a b = true) (h2 : ltL b c = true) : ltL a c = true := lex_trans _ _ _ h h2
theorem ltL_neg {a b c : List Pr} (h : ltL a c = true) : ltL a b = true ∨ ltL b c = true := lex_negTrans _ _ _ h
theorem ltL_total {a b : List Pr} (h : ltL a b = false) (h2 : ltL b a = false) : a = b := by
  have e := lex_total _ _ h h2
  exact toksAll_inj a b e
def minL (x : List Pr) (xs : List (List Pr)) : List Pr := xs.foldl (fun a y => if ltL y a then y else a) x
def LeastL (m : List Pr) (xs : List (List Pr)) : Prop := m ∈ xs ∧ ∀ y ∈ xs, ltL y m = false
theorem minL_least : ∀ (xs : List (List Pr)) (x : List Pr), LeastL (minL x xs) (x :: xs)
  | [], x => ⟨List.mem_cons_self, fun y m => by rw [List.mem_singleton.mp m]; exact ltL_irr x⟩
  | y :: xs, x => by
    show LeastL (minL (if ltL y x then y else x) xs) (x :: y :: xs)
    have ih := minL_least xs (if ltL y x then y else x)
    generalize minL (if ltL y x then y else x) xs = m at ih
    obtain ⟨h1, h2⟩ := ih
    by_cases c : ltL y x = true
    · rw [if_pos c] at h1 h2
      refine ⟨List.mem_cons_of_mem _ h1, fun z mz => ?_⟩
      rcases List.mem_cons.mp mz with e | mz
      · rw [e]
        refine Bool.eq_false_iff.mpr fun t => ?_
        have := h2 y List.mem_cons_self
        rw [ltL_trans c t] at this
        cases this
      · exact h2 z mz
    · rw [if_neg c] at h1 h2
      have c := Bool.eq_false_iff.mpr c
      refine ⟨?_, fun z mz => ?_⟩
      · rcases List.mem_cons.mp h1 with e | m1
        · rw [e]
          exact List.mem_cons_self
        · exact List.mem_cons_of_mem _ (List.mem_cons_of_mem _ m1)
      · rcases List.mem_cons.mp mz with e | mz
        · exact h2 z (e ▸ List.mem_cons_self)
        · rcases List.mem_cons.mp mz with e | mz
          · rw [e]
            refine Bool.eq_false_iff.mpr fun t => ?_
            rcases ltL_neg (b := x) t with t | t
            · rw [c] at t
              cases t
            · rw [h2 x List.mem_cons_self] at t
              cases t
          · exact h2 z (List.mem_cons_of_mem _ mz)
theorem LeastL.uniq {a b : List Pr} {xs ys : List (List Pr)} (h : LeastL a xs) (h2 : LeastL b ys) (e : ∀ x, x ∈ xs ↔ x ∈ ys) : a = b :=
  ltL_total (h2.2 a ((e a).mp h.1)) (h.2 b ((e b).mpr h2.1))
theorem minD_lp (x : List Pr) : ∀ xs : List (List Pr), W.minD (lp x) (xs.map lp) = lp (minL x xs) := by
  intro xs
  unfold W.minD minL
  induction xs generalizing x with
  | nil => rfl
  | cons y xs ih =>
    rw [List.map_cons, List.foldl_cons, List.foldl_cons, ← ih]
    congr 1
    show (if ltL y x = true then lp y else lp x) = _
    split <;> rfl
theorem alike_pd (x y : Pr) : W.alike (pd x) (pd y) = true := rfl
theorem alikeAll_pd : ∀ a b : List Pr, W.alikeAll (a.map pd) (b.map pd) = true
  | [], _ => by simp [W.alikeAll]
  | _ :: _, [] => by simp [W.alikeAll]
  | x :: a, y :: b => by
    rw [List.map_cons, List.map_cons, W.alikeAll, alike_pd, alikeAll_pd a b]
    rfl
theorem alike_lp (a b : List Pr) : W.alike (lp a) (lp b) = true := by
  unfold lp
  rw [W.alike]
  exact alikeAll_pd a b
theorem plainAll_pd : ∀ l : List Pr, PyData.plainAll (l.map pd) = true
  | [] => by simp [PyData.plainAll]
  | x :: l => by
    rw [List.map_cons]
    simp [PyData.plainAll, PyData.plain, pd, plainAll_pd l]
theorem plain_lp (l : List Pr) : PyData.plain (lp l) = true := by
  unfold lp
  rw [PyData.plain]
  exact plainAll_pd l
theorem plainAll_lp : ∀ l : List (List Pr), PyData.plainAll (l.map lp) = true
  | [] => by simp [PyData.plainAll]
  | x :: l => by
    rw [List.map_cons, PyData.plainAll, plain_lp, plainAll_lp l]
    rfl
section
variable {X : Cx}
theorem cr_minL (hc : X.calm = true) (hu : X.A.units + 65 < cLine) : CallR X (.builtin "min") (fun xs H Q => ∃ l x xss, xs = [V.ref l] ∧ CellsL H l (x :: xss) ∧ ∀ a, Cells H a (minL x xss) → Q (.ref a) H) := by
  intro pins s σ H xs us Q I r h
  obtain ⟨l, x, xss, rfl, ⟨ts, hl, ht, ets⟩, q⟩ := h
  obtain ⟨its, rv, pl, hz⟩ := I.list (lst_of hl)
  rw [Vals.ref1 r]
  have dpa : DpAll X.K H (ts.map fun t => V.ref t.1) ((x :: xss).map lp) := by
    rw [← ets]
    have go : ∀ us : List (Addr × List Pr), (∀ t ∈ us, Cells H t.1 t.2) → DpAll X.K H (us.map fun t => V.ref t.1) ((us.map (·.2)).map lp) := fun us => by
      induction us with
      | nil => exact fun _ => .nil
      | cons t us ih => exact fun h => .cons (dp_cells (h t List.mem_cons_self)) (ih fun u m => h u (List.mem_cons_of_mem _ m))
    exact go ts ht
  obtain ⟨as, hr⟩ := Dp.readsAll I _ _ its dpa rv
  have dep := depAll_lp (x :: xss)
  have er : its = ts.map fun t => Value.ref t.1 := by
    have go : ∀ (us : List (Addr × List Pr)) (vs : List Value), Vals (us.map fun t => V.ref t.1) vs → vs = us.map fun t => Value.ref t.1 := fun us => by
      induction us with
      | nil => intro vs h; cases h; rfl
      | cons u us ih =>
        intro vs h
        cases h with
        | cons r1 r2 =>
          cases r1
          rw [ih _ r2]
          rfl
    exact go ts its rv
  refine W.min_list_data (x := lp x) (xs := xss.map lp) (I.ok.hd hc) pl.isList hr ⟨fun a ma b mb => ?_, fun a ma => ?_⟩ (by rw [← List.map_cons]; omega) fun i v h' tk bs hv rd k => ?_
  · obtain ⟨a, _, rfl⟩ := List.mem_map.mp (show a ∈ (x :: xss).map lp from ma)
    obtain ⟨b, _, rfl⟩ := List.mem_map.mp (show b ∈ (x :: xss).map lp from mb)
    exact alike_lp a b
  · obtain ⟨a, _, rfl⟩ := List.mem_map.mp (show a ∈ (x :: xss).map lp from ma)
    intro z
    cases z
  · rw [minD_lp] at rd
    have hv' : its[i]? = some v := by simpa using hv
    rw [er, List.getElem?_map] at hv'
    obtain ⟨t, et, rfl⟩ := Option.map_eq_some_iff.mp hv'
    have mt := List.mem_of_getElem? et
    obtain ⟨as2, r2⟩ := Dp.reads I (lp t.2) (.ref t.1) (.ref t.1) (dp_cells (ht t mt)) rfl
    have e := W.alike_unique _ _ _ _ _ (alike_lp _ _) rd (Reads.keeps k r2)
    refine ⟨.ref t.1, H, I.kept k, rfl, q t.1 ?_⟩
    rw [lp_inj e]
    exact ht t mt
theorem count_lp (p : List Pr) : ∀ pss : List (List Pr), (pss.map lp).countP (fun y => PyData.eqv y (lp p)) = pss.count p
  | [] => rfl
  | x :: pss => by
    rw [List.map_cons, List.countP_cons, List.count_cons, count_lp p pss, eqv_lp]
    by_cases e : x = p
    · simp [e]
    · simp [e]
theorem mt_countL (hu : X.A.units + 65 < cLine) : MtR X "list.count" (fun x xs H Q => ∃ (a t : Addr) (p : List Pr) (pss : List (List Pr)), x = .ref a ∧ xs = [.ref t] ∧ Cells H t p ∧ CellsL H a pss ∧ Q (.int (pss.count p : Nat)) H) := by
  intro pins s σ H x xs v us Q I rx rxs h
  obtain ⟨a, t, p, pss, rfl, rfl, hp, hl, q⟩ := h
  cases rx
  obtain ⟨u, rfl, ru⟩ := rxs.one
  obtain ⟨as, r1⟩ := Dp.reads I (lp p) (.ref t) u (dp_cells hp) ru
  have dl := dp_cellsL (K := X.K) hl
  have dep := depAll_lp pss
  cases dl with
  | lst hs ha =>
    obtain ⟨its, rv, pl, hz⟩ := I.list hs
    obtain ⟨bs, hr⟩ := Dp.readsAll I _ _ its ha rv
    refine SeqAt.count_list_data pl.isList hr r1 (plainAll_lp pss) (plain_lp p) (by have := Nat.min_le_left (PyData.depthAll (pss.map lp)) (lp p).depth; omega) ?_
    rw [count_lp]
    exact ⟨.int (pss.count p : Nat), H, I.tok _, ⟨_, rfl⟩, q⟩
end
theorem ix_listK {X : Cx} {K : PySem.W.Frag} (hK : X.K = K) : IxR X (rIxL K) := by
  subst hK
  exact ix_list
theorem op_eqDK {X : Cx} {K : PySem.W.Frag} (hK : X.K = K) (hu : X.A.units + 64 < cLine) : OpR X (compareOp .Eq) (rEqD K) := by
  subst hK
  exact op_eqD hu
/-- a comprehension over such a list, a new list of pairs for each -/
theorem lc_lists {K : PySem.W.Frag} {l : Addr} {pss : List (List Pr)} {g : TG} {tt : TT} {te : TE} {vs : List Nat} {σ : L2.St} {H1 : Hp} {D : Addr} {Qd : Hp → Prop} (f : List Pr → List Pr) (hC : CellsL H1 l pss) (nD : H1 D = none) (few : pss.length < sizeLine)
    (hs : ∀ (t : Addr) (ps : List Pr) (H' : Hp) (Po : V → Hp → Prop) (Pn : Hp → Prop), ps ∈ pss → Same H1 H' → Cells H' t ps → (∀ H2 t2, Same H' H2 → H' t2 = none → Cells H2 t2 (f ps) → Po (.ref t2) H2) →
      g (.ref t) (wipe σ vs) H' fun σ2 H2 => wipe σ2 vs = wipe σ vs ∧ tt σ2 H2 fun b H3 => if b = true then te σ2 H3 Po else Pn H3)
    (hd : ∀ H', Same H1 H' → CellsL H' D (pss.map f) → Qd H') :
    ∃ W : Nat → Nat → Hp → Prop, (∃ m, W 0 m (upd H1 D (.lst []))) ∧ ∀ i m H, W i m H →
      ((Itl K l).stop i H ∧ Qd H) ∨ ((Itl K l).go i H ∧ ∃ Nx : Hp → Prop, (∀ H', Nx H' → ∃ m', m' < m ∧ W (i + 1) m' H') ∧ ∀ x H', (Itl K l).yld i H x H' → g x (wipe σ vs) H' fun σ2 H2 => wipe σ2 vs = wipe σ vs ∧ tt σ2 H2 fun b H3 =>
        if b = true then te σ2 H3 fun y H4 => ∃ acc, H4 D = some (.lst acc) ∧ acc.length < sizeLine ∧ Nx (upd H4 D (.lst (acc ++ [y]))) else Nx H3) := by
  obtain ⟨ts, hl, ht, rfl⟩ := hC
  rw [List.length_map] at few
  refine lc_list (K := K) (a := l) (xs := ts.map fun t => V.ref t.1) (fun i H' => Same H1 H' ∧ ∃ us : List (Addr × List Pr), H' D = some (.lst (us.map fun t => V.ref t.1)) ∧ (∀ t ∈ us, t.1 ≠ D ∧ Cells H' t.1 t.2) ∧ us.map (·.2) = ((ts.map (·.2)).take i).map f)
    ⟨newS nD, [], upd_same, fun _ m => (by cases m), rfl⟩ (fun i H' _ p => lst_of (p.1 _ _ hl)) ?_ ?_
  · rintro i x H' hi ⟨sm, us, h1, h2, h3⟩
    rw [List.getElem?_map] at hi
    obtain ⟨t, et, rfl⟩ := Option.map_eq_some_iff.mp hi
    have mt := List.mem_of_getElem? et
    have ei : (ts.map (·.2))[i]? = some t.2 := by rw [List.getElem?_map, et]; rfl
    have li := (List.getElem?_eq_some_iff.mp et).1
    have ul : us.length = i := by
      have z := congrArg List.length h3
      rw [List.length_map, List.length_map, List.length_take, List.length_map] at z
      omega
    refine hs t.1 t.2 H' _ _ (List.mem_map.mpr ⟨t, mt, rfl⟩) sm ((ht t mt).up sm) fun H2 t2 e2 n2 hc => ⟨us.map fun t => V.ref t.1, e2 _ _ h1, by rw [List.length_map]; omega, mutS (sm.trans e2) nD, us ++ [(t2, f t.2)], ?_, ?_, ?_⟩
    · rw [upd_same, List.map_append]
      rfl
    · have nD2 : t2 ≠ D := fun e => by
        rw [e, h1] at n2
        cases n2
      have nt : ∀ xs, H2 D ≠ some (.tup xs) := fun xs e => by
        rw [e2 _ _ h1] at e
        cases e
      intro u m
      rcases List.mem_append.mp m with m | m
      · exact ⟨(h2 u m).1, ((h2 u m).2.up e2).mut (h2 u m).1 nt⟩
      · rw [List.mem_singleton.mp m]
        exact ⟨nD2, hc.mut nD2 nt⟩
    · rw [List.map_append, h3, take_next ei, List.map_append]
      rfl
  · rintro H' ⟨sm, us, h1, h2, h3⟩
    refine hd H' sm ⟨us, h1, fun t m => (h2 t m).2, ?_⟩
    rw [h3, List.length_map, List.take_of_length_le (by rw [List.length_map]; exact Nat.le_refl _)]
end Vx
namespace PySem
open Sem (wp)
section
variable {prog : Program} {w : World} {K : Type} [DecidableEq K] {knd : HeapKind prog w K} {A : Around} {E : Value → Shared → Prop} {s : Shared}
theorem wpAny_truthy_dictH {d : Addr} {xs : List (K × Addr × Value)} {Q : Bool → Shared → Prop} (hd : (d == sysModules) = false) (hm : s.heap.DictOfH knd d xs) (hfit : (xs.length : Int) < 2 ^ 63)
    (h : Q (!xs.isEmpty) { s with toks := s.toks + 1 + 1 }) : wpAny (model prog w) A (truthy (.ref d)) Q E s := by
  have hne : ((xs.length : Int) != 0) = !xs.isEmpty := by cases xs <;> simp <;> omega
  have key : wpAny (model prog w) A (runValue (.builtin "len" ⟨[.ref d], []⟩)) (fun r s' => r = .int xs.length (s.toks + 1) ∧ Q (!xs.isEmpty) s') E s := by
    refine wpAny_runValue (codeAny_builtin entry_len ?_)
    rw [Around.under_plainId plain_len _]
    exact wpAny_mono (wpAny_len_body_dictH (Q := fun r s' => r = .int xs.length (s.toks + 1) ∧ Q (!xs.isEmpty) s') hd hm hfit ⟨rfl, h⟩)
      (fun fin s' h' => by obtain ⟨r, rfl, hq⟩ := h'; exact hq) fun _ _ e => e
  unfold truthy
  first
    | refine wpAny_bind (wpAny_callSpecial?_none (name := Str.ofString "__bool__") hm.typeIs noBool_dict ?_)
    | refine wpAny_bind (wpAny_pure (wpAny_bind (wpAny_callSpecial?_none (name := Str.ofString "__bool__") hm.typeIs noBool_dict ?_)))
  first
    | refine wpAny_bind (wpAny_specialOf (name := Str.ofString "__len__") hm.typeIs F.slot_dict_len.lookup ?_)
    | refine wpAny_bind (wpAny_pure (wpAny_bind (wpAny_specialOf (name := Str.ofString "__len__") hm.typeIs F.slot_dict_len.lookup ?_)))
  first
    | exact wpAny_bind (wpAny_mono key (fun r s' h' => by obtain ⟨rfl, hq⟩ := h'; exact wpAny_pure (hne ▸ hq)) fun _ _ e => e)
    | exact wpAny_bind (wpAny_pure (wpAny_bind (wpAny_mono key (fun r s' h' => by obtain ⟨rfl, hq⟩ := h'; exact wpAny_pure (hne ▸ hq)) fun _ _ e => e)))
end
end PySem
namespace Vx
open PySem PySem.Spec PyProof.Rows L2
theorem gName_go {i : Nat} {v : V} {σ : L2.St} {H : Hp} {Q : L2.St → Hp → Prop} (h : Q (σ.set i (some v)) H) : gName i v σ H Q := h
/-! ### min, max with a default, of ints -/
theorem foldl_min_mem : ∀ (ns : List Int) (n : Int), ns.foldl min n ∈ n :: ns ∧ ∀ y ∈ n :: ns, ns.foldl min n ≤ y
  | [], n => ⟨List.mem_cons_self, fun y m => by rw [List.mem_singleton.mp m]; exact Int.le_refl n⟩
  | k :: ns, n => by
    obtain ⟨h1, h2⟩ := foldl_min_mem ns (min n k)
    show ns.foldl min (min n k) ∈ _ ∧ ∀ y ∈ _, ns.foldl min (min n k) ≤ y
    have h0 := h2 _ List.mem_cons_self
    refine ⟨?_, fun y m => ?_⟩
    · rcases List.mem_cons.mp h1 with e | m
      · rw [e]
        rcases Int.le_total n k with c | c
        · rw [Int.min_eq_left c]; exact List.mem_cons_self
        · rw [Int.min_eq_right c]; exact List.mem_cons_of_mem _ List.mem_cons_self
      · exact List.mem_cons_of_mem _ (List.mem_cons_of_mem _ m)
    · rcases List.mem_cons.mp m with e | m
      · rw [e]; exact Int.le_trans h0 (Int.min_le_left _ _)
      · rcases List.mem_cons.mp m with e | m
        · rw [e]; exact Int.le_trans h0 (Int.min_le_right _ _)
        · exact h2 y (List.mem_cons_of_mem _ m)
theorem foldl_max_mem : ∀ (ns : List Int) (n : Int), ns.foldl max n ∈ n :: ns ∧ ∀ y ∈ n :: ns, y ≤ ns.foldl max n
  | [], n => ⟨List.mem_cons_self, fun y m => by rw [List.mem_singleton.mp m]; exact Int.le_refl n⟩
  | k :: ns, n => by
    obtain ⟨h1, h2⟩ := foldl_max_mem ns (max n k)
    show ns.foldl max (max n k) ∈ _ ∧ ∀ y ∈ _, y ≤ ns.foldl max (max n k)
    have h0 := h2 _ List.mem_cons_self
    refine ⟨?_, fun y m => ?_⟩
    · rcases List.mem_cons.mp h1 with e | m
      · rw [e]
        rcases Int.le_total n k with c | c
        · rw [Int.max_eq_right c]; exact List.mem_cons_of_mem _ List.mem_cons_self
        · rw [Int.max_eq_left c]; exact List.mem_cons_self
      · exact List.mem_cons_of_mem _ (List.mem_cons_of_mem _ m)
    · rcases List.mem_cons.mp m with e | m
      · rw [e]; exact Int.le_trans (Int.le_max_left _ _) h0
      · rcases List.mem_cons.mp m with e | m
        · rw [e]; exact Int.le_trans (Int.le_max_right _ _) h0
        · exact h2 y (List.mem_cons_of_mem _ m)
theorem alike_ints (ns : List Int) : W.AlikeAll (ns.map PyData.int) := ⟨fun a ma b mb => by
    obtain ⟨x, _, rfl⟩ := List.mem_map.mp ma
    obtain ⟨y, _, rfl⟩ := List.mem_map.mp mb
    simp [W.alike], fun a ma => by
    obtain ⟨x, _, rfl⟩ := List.mem_map.mp ma
    intro z
    cases z⟩
section
variable {X : Cx}
def rDflt (K : PySem.W.Frag) (le : Int → Int → Prop) : List V → List V → Hp → VK → Prop := fun vs zs H Q => ∃ (a : Addr) (ns : List Int) (d : V), vs = [V.ref a] ∧ zs = [d] ∧ SqL K H a (ns.map V.int) ∧ (ns = [] → Q d H) ∧ ∀ m, m ∈ ns → (∀ y ∈ ns, le m y) → Q (.int m) H
theorem cr_minD (hc : X.calm = true) (hu : X.A.units + 2 < cLine) : CallRK X (.builtin "min") [Str.ofString "default"] (rDflt X.K (fun m y => m ≤ y)) := by
  intro pins s σ H vs zs us ws Q I r rz h
  obtain ⟨a, ns, d, rfl, rfl, hs, q0, q⟩ := h
  obtain rfl := Vals.ref1 r
  obtain ⟨w1, rfl, e1⟩ := vals1 rz
  obtain ⟨its, rv, pl, hz⟩ := I.list hs
  obtain ⟨as, hr⟩ := Dp.readsAll I _ _ its (dpAll_ints ns) rv
  refine W.min_list_default (I.ok.hd hc) pl.isList hr (alike_ints ns) (by rw [depAll_ints]; omega) (fun z h' tk k => ?_) fun y ys i v h' tk bs e hv rd k => ?_
  · exact ⟨d, H, I.kept k, e1, q0 (List.map_eq_nil_iff.mp z)⟩
  · cases ns with
    | nil => cases e
    | cons n ns =>
      injection e with e1 e2
      subst e1 e2
      rw [W.minD_ints] at rd
      obtain ⟨h1, h2⟩ := foldl_min_mem ns n
      cases rd
      exact ⟨.int _, H, I.kept k, ⟨_, rfl⟩, q _ h1 h2⟩
theorem cr_maxD (hc : X.calm = true) (hu : X.A.units + 2 < cLine) : CallRK X (.builtin "max") [Str.ofString "default"] (rDflt X.K (fun m y => y ≤ m)) := by
  intro pins s σ H vs zs us ws Q I r rz h
  obtain ⟨a, ns, d, rfl, rfl, hs, q0, q⟩ := h
  obtain rfl := Vals.ref1 r
  obtain ⟨w1, rfl, e1⟩ := vals1 rz
  obtain ⟨its, rv, pl, hz⟩ := I.list hs
  obtain ⟨as, hr⟩ := Dp.readsAll I _ _ its (dpAll_ints ns) rv
  refine W.max_list_default (I.ok.hd hc) pl.isList hr (alike_ints ns) (by rw [depAll_ints]; omega) (fun z h' tk k => ?_) fun y ys i v h' tk bs e hv rd k => ?_
  · exact ⟨d, H, I.kept k, e1, q0 (List.map_eq_nil_iff.mp z)⟩
  · cases ns with
    | nil => cases e
    | cons n ns =>
      injection e with e1 e2
      subst e1 e2
      rw [W.maxD_ints] at rd
      obtain ⟨h1, h2⟩ := foldl_max_mem ns n
      cases rd
      exact ⟨.int _, H, I.kept k, ⟨_, rfl⟩, q _ h1 h2⟩
/-- if d: of a dict with tuple keys -/
theorem pt_truT {a : Expr} {ta : TE} (ha : PE X a ta) (he : ∀ whole, isTrue a X.env whole = (do let v ← whole; standAt a.pos; holding [v] (truthy v))) :
    PT X a (fun σ H Q => ta σ H fun x H' => ∃ (p : Addr) (kvs : List (List L2.Key × V)), x = .ref p ∧ H' p = some (.dT kvs) ∧ Q (!kvs.isEmpty) H') := by
  refine ⟨fun pins s σ H Q I h => ?_⟩
  refine isTrue_plain (thn (ha.run pins s σ H _ I h) fun v s1 ⟨x, H1, I1, r1, q1⟩ => ?_) (he _)
  obtain ⟨p, kvs, rfl, hp, q⟩ := q1
  obtain rfl : v = .ref p := r1
  obtain ⟨z, hd, ys, rel, dd⟩ := dt_of I1.hok hp
  have hl : kvs.length = ys.length := Paired.length rel
  have hi : (!ys.isEmpty) = !kvs.isEmpty := by
    cases ys <;> cases kvs <;> first | rfl | (simp at hl)
  refine PySem.wpAny_truthy_dictH hd dd (by rw [← hl]; rw [sizeLine_eq] at z; omega) ?_
  rw [hi]
  exact ⟨H1, I1.tok _, q⟩
end
/-- the keys of such a dict, a number of each -/
theorem lc_keysN {d : Addr} {od : Obj} {kvs : List (List L2.Key × V)} {ps : List Pr} {vs : List Nat} {σ : L2.St} {H1 : Hp} {D : Addr} {Qd : Hp → Prop} {g : TG} {tt : TT} {te : TE} (f : Pr → Int) (hK : KeysP kvs ps) (hD : H1 d = some (.frz od (.dT kvs))) (nD : H1 D = none) (few : ps.length < sizeLine)
    (hs : ∀ (t : Addr) (x : Pr) (H' : Hp) (Po : V → Hp → Prop) (Pn : Hp → Prop), x ∈ ps → H' t = some (.tup [.int x.1, .int x.2]) → Po (.int (f x)) H' →
      g (.ref t) (wipe σ vs) H' fun σ2 H2 => wipe σ2 vs = wipe σ vs ∧ tt σ2 H2 fun b H3 => if b = true then te σ2 H3 Po else Pn H3)
    (hd : ∀ H', Same H1 H' → H' D = some (.lst ((ps.map f).map V.int)) → Qd H') :
    ∃ W : Nat → Nat → Hp → Prop, (∃ m, W 0 m (upd H1 D (.lst []))) ∧ ∀ i m H, W i m H →
      ((Itkt d od kvs).stop i H ∧ Qd H) ∨ ((Itkt d od kvs).go i H ∧ ∃ Nx : Hp → Prop, (∀ H', Nx H' → ∃ m', m' < m ∧ W (i + 1) m' H') ∧ ∀ x H', (Itkt d od kvs).yld i H x H' → g x (wipe σ vs) H' fun σ2 H2 => wipe σ2 vs = wipe σ vs ∧ tt σ2 H2 fun b H3 =>
        if b = true then te σ2 H3 fun y H4 => ∃ acc, H4 D = some (.lst acc) ∧ acc.length < sizeLine ∧ Nx (upd H4 D (.lst (acc ++ [y]))) else Nx H3) := by
  have len := hK.len
  refine lc_it walk_keysT (fun i H' => Same H1 H' ∧ H' D = some (.lst (((ps.take i).map f).map V.int)))
    ⟨newS nD, upd_same⟩ (fun i H' _ p => p.1 _ _ hD) ?_ ?_
  · rintro i x H' H2 hi ⟨sm, h1⟩ ⟨rfl, k, v, q, e, rfl, hq⟩
    obtain ⟨y, hy, ek⟩ := hK.at e
    rw [ek] at hq
    refine hs q y _ _ _ (List.mem_of_getElem? hy) hq ⟨_, h1, ?_, mutS sm nD, ?_⟩
    · rw [List.length_map, List.length_map, List.length_take]
      omega
    · rw [upd_same, take_next hy, List.map_append, List.map_append]
      rfl
  · rintro H' ⟨sm, h1⟩
    rw [List.take_of_length_le (by omega)] at h1
    exact hd H' sm h1
end Vx
namespace Vx
open PySem PySem.Spec PyProof.Rows L2
/-! ### dict comprehensions with two loops -/
def emD0 (kx vx : Expr) (acc : Value) (env : Env) : Sem Unit := do
  let kv ← eval kx env
  let vv ← holding [kv] (eval vx env)
  match acc with
  | .ref d => do
    standAt { kx.pos with endLine := vx.pos.endLine, endCol := vx.pos.endCol }
    holding [kv, vv] (dictSet d kv vv)
  | _ => unsupported "internal:dictcomp"
def emD (kx vx : Expr) (acc : Value) (env : Env) (k : Unit → Sem PySem.Fin) : Sem PySem.Fin := emD0 kx vx acc env >>= k
def tEmD (tk tv : TE) (D : Addr) : EMT := fun σ H Nx => tk σ H fun y H4 => tv σ H4 fun z H5 => ∃ (kvs : List (List L2.Key × V)) (k : List L2.Key) (b : Addr), y = .ref b ∧ H5 b = some (.tup (k.map kV)) ∧ H5 D = some (.dT kvs) ∧ kvs.length < sizeLine ∧ Nx (upd H5 D (.dT (putK kvs k z)))
theorem runs_put {Y : Cx} (hu : Y.A.units < cLine) (xe0 : Y.xe = fun _ _ => False) {kx vx : Expr} {tk tv : TE} {D : Addr} (vs : List Nat) (pk : PE Y kx tk) (pv : PE Y vx tv) : Runs Y vs (tEmD tk tv D) (emD kx vx (.ref D) Y.env) := by
  intro pins s σ H Nx c Post E I h k
  unfold emD emD0
  have r := pk.run pins s σ H _ I h
  rw [xe0] at r
  refine wpAny_bind (wpAny_bind (wpAny_mono r (fun v s1 h1 => ?_) fun _ _ z => z.elim))
  obtain ⟨y, H1, I1, ry, h1⟩ := h1
  have r2 := pv.run pins s1 σ H1 _ I1 h1
  rw [xe0] at r2
  refine wpAny_bind (wpAny_holding (wpAny_mono r2 (fun v2 s2 h2 => ?_) fun _ _ z => z.elim))
  obtain ⟨z, H2, I2, rz, kvs, kk, b, rfl, hb, hD, few, nx⟩ := h2
  cases ry
  refine wpAny_bind (wpAny_standAt (wpAny_holding ?_))
  exact set_compT hu I2 hD few hb rz fun s3 I3 => wpAny_pure (k s3 _ (I3.weak (wipe_length ..) fun _ _ z => (wipe_some z).1) nx)
def tDcG (wi : TI) (g : TG) (tt : TT) (EM : Addr → EMT) (vs : List Nat) : TE := fun σ H Q => wi σ H fun J H1 => ∀ D : Addr, H1 D = none → ∃ W, (∃ m, W 0 m (upd H1 D (.dT []))) ∧ tTurns J g tt vs (EM D) σ (fun H => Q (.ref D) H) W
theorem pe_dcG {X : Cx} {kx vx tg iter : Expr} {ifs : List Expr} {rest : List Comprehension} {scope : Scope} {own : List (Str × Nat)} {pos p : Pos} {wi : TI} {g : TG} {tt : TT} {EM : Addr → EMT} {em : Value → Env → (Unit → Sem PySem.Fin) → Sem PySem.Fin}
    (hc : X.calm = true) (hN : X.N.Nodup) (hi : PI X tg iter wi) (ok : BlkOk X.N X.env.scope scope own)
    (hg : ∀ (s : Shared) (H : Hp) (C : Addr) (cl : List (Str × Addr)) (fp : List Addr), PG (X.blk s H scope (compEnvC scope cl C X.env) fp) tg g)
    (ht : ∀ (s : Shared) (H : Hp) (C : Addr) (cl : List (Str × Addr)) (fp : List Addr), PTs (X.blk s H scope (compEnvC scope cl C X.env) fp) ifs tt)
    (hem : ∀ (s : Shared) (H : Hp) (C : Addr) (cl : List (Str × Addr)) (fp : List Addr) (D : Addr), Runs (X.blk s H scope (compEnvC scope cl C X.env) fp) (own.map (·.2)) (EM D) (em (.ref D) (compEnvC scope cl C X.env)))
    (turn : ∀ it acc env, compTurn (.DictComp kx vx (⟨tg, iter, ifs, 0⟩ :: rest) scope pos) 0 it acc env = turnF p tg ifs (em acc env) (Code.compLoop (.DictComp kx vx (⟨tg, iter, ifs, 0⟩ :: rest) scope pos) 0 it acc env) it env)
    (hs : ∀ x, foldedSetIterable iter X.env x = pure x) : PE X (.DictComp kx vx (⟨tg, iter, ifs, 0⟩ :: rest) scope pos) (tDcG wi g tt EM (own.map (·.2))) := by
  refine ⟨fun pins s σ H Q I h => ?_⟩
  rw [arm_eval_DictComp]
  have hfree : ∀ y ∈ scope.names, y.2 = NameKind.free → ∃ c, List.lookup y.1 X.env.cells = some c := fun y hy e => (ok.free y hy e).elim (fun k => I.ok.has y.1 (.inl k)) fun k => I.ok.has y.1 (.inr k)
  refine wpAny_comprehension_free (use := none) rfl hs (closure_ok hfree) ok.kind (fun y hy e => by rw [ok.uniq y hy, e]) ?_
  refine wpAny_mono (hi.run pins s σ H _ I h) (fun xv s1 hx => ?_) fun _ _ z => z
  refine wpAny_mono hx (fun itv s2 h2 => ?_) fun _ _ z => z
  obtain ⟨it, fp, tn, J, H2, rfl, I2, T, t2, f2, q⟩ := h2
  refine wpAny_newObj_type (newEnv_comp ?_)
  have hDn : H2 s2.heap.objs.size = none := I2.hok.fresh (Nat.le_refl _)
  obtain ⟨W, ⟨m0, w0⟩, turns⟩ := q _ hDn
  have I3 : L2.Inv X pins σ (upd H2 s2.heap.objs.size (.dT [])) { s2 with heap := s2.heap.push { cls := .type "dict", data := .dict #[] } } :=
    I2.laid (t' := s2.toks) (fun b o e => Heap.get?_push_of_some _ e) (Nat.le_refl _) (dt_empty s2.heap I2.big)
  generalize es3 : ({ s2 with heap := s2.heap.push { cls := .type "dict", data := .dict #[] } } : Shared) = s3 at I3 ⊢
  have h3 : s3.heap = s2.heap.push { cls := .type "dict", data := .dict #[] } := by rw [← es3]
  have f3 : ∀ b ∈ fp, FpOk X pins (upd H2 s2.heap.objs.size (.dT [])) b ∧ b < s3.heap.objs.size := fun b hb => by
    obtain ⟨o, ho, _⟩ := T.obj 0 _ t2 b hb
    have lt := Heap.lt_size ho
    refine ⟨⟨?_, (f2 b hb).2⟩, ?_⟩
    · rw [upd_ne (Nat.ne_of_lt lt)]
      exact (f2 b hb).1
    · rw [h3, Heap.size_push]
      exact Nat.lt_succ_of_lt lt
  have st3 : tn 0 s3.heap := T.keep 0 _ _ t2 fun b _ o e => by
    rw [h3]
    exact Heap.get?_push_of_some _ e
  have I4 := block_start I3 ok hN f3
  have st4 := T.keep 0 _ (pushCells (s3.heap.push { cls := .type "dict", data := .dict #[] }) scope.names) st3 fun b _ o e => pushCells_keeps scope.names _ b o (Heap.get?_push_of_some _ e)
  clear es3
  generalize s2.heap.objs.size = D at *
  show codeAny (model X.prog X.w) X.A (Code.compStart _ 0 (.ref it) (.ref D) (compEnvC scope (cellsFrom (s3.heap.objs.size + 1) scope.names (cloFrom X.env.cells scope.names [])) s3.heap.objs.size X.env)) _ _
  have loop := lvl (Y := X.blk s3 (upd H2 D (.dT [])) scope (compEnvC scope (cellsFrom (s3.heap.objs.size + 1) scope.names (cloFrom X.env.cells scope.names [])) s3.heap.objs.size X.env) fp) (R := compPost (model X.prog X.w) X.A X.xe none (EP X pins σ Q) (.ref D) s3.heap.objs.size) (e := .DictComp kx vx (⟨tg, iter, ifs, 0⟩ :: rest) scope pos) (d := 0) (acc := .ref D) hc rfl T (hg _ _ _ _ _) (ht _ _ _ _ _) rfl rfl rfl (turn _ _ _) (EM := EM D) (vs := List.map (fun x : Str × Nat => x.2) own) (σ0 := σ) (W := W) (Qe := fun H => Q (.ref D) H)
    (fun pins s σ H Nx Post E I h k => hem _ _ _ _ _ D pins s σ H Nx _ Post E I h k) turns (fun s6 H5 I6 q6 => ?_) I4 st4 (fun b hb => ⟨(f3 b hb).1.1, (I4.ok.exf b hb).1, I4.ok.exfs b hb, .inl hb, (I4.ok.exf b hb).2, fun p hp => by cases hp⟩) w0
  · exact codeAny_compStart_dict loop (T.self X.A 0 _ _ _ st4 loop)
  · have I7 := Inv.call' I3 I6.os I6.base I6.hok I6.bare fun b hb => ⟨(f3 b hb).1.2.2.2.1, (f3 b hb).1.2.1, (f3 b hb).1.2.2.2.2.1, (f3 b hb).1.2.2.2.2.2⟩
    obtain ⟨m, hn, _⟩ := I6.loc
    obtain ⟨a0, a1, a2, a3, a4, a5⟩ := Inv.fpOk I3 (Nat.le_refl _) I6.free
    exact ⟨m, hn, fun h' sb => ⟨.ref D, H5, Inv.turned I7 (fun b o hb e => (sb.2 b hb).trans e) a0 a1 a3 a4 a5, rfl, q6⟩⟩
/-- {k: v for a in xs for b in ys} -/
theorem pe_dcD {X : Cx} {kx vx tg iter tg1 iter1 : Expr} {ifs ifs1 : List Expr} {scope : Scope} {own : List (Str × Nat)} {vs1 : List Nat} {pos : Pos} {wi wi1 : TI} {g g1 : TG} {tt tt1 : TT} {tk tv : TE}
    (hc : X.calm = true) (hu : X.A.units < cLine) (hN : X.N.Nodup) (hi : PI X tg iter wi) (ok : BlkOk X.N X.env.scope scope own) (hv1 : ∀ i ∈ vs1, i ∈ List.map (fun x : Str × Nat => x.2) own)
    (hg : ∀ (s : Shared) (H : Hp) (C : Addr) (cl : List (Str × Addr)) (fp : List Addr), PG (X.blk s H scope (compEnvC scope cl C X.env) fp) tg g)
    (ht : ∀ (s : Shared) (H : Hp) (C : Addr) (cl : List (Str × Addr)) (fp : List Addr), PTs (X.blk s H scope (compEnvC scope cl C X.env) fp) ifs tt)
    (hi1 : ∀ (s : Shared) (H : Hp) (C : Addr) (cl : List (Str × Addr)) (fp : List Addr), PI (X.blk s H scope (compEnvC scope cl C X.env) fp) tg1 iter1 wi1)
    (hg1 : ∀ (s : Shared) (H : Hp) (C : Addr) (cl : List (Str × Addr)) (fp : List Addr), PG (X.blk s H scope (compEnvC scope cl C X.env) fp) tg1 g1)
    (ht1 : ∀ (s : Shared) (H : Hp) (C : Addr) (cl : List (Str × Addr)) (fp : List Addr), PTs (X.blk s H scope (compEnvC scope cl C X.env) fp) ifs1 tt1)
    (hk : ∀ (s : Shared) (H : Hp) (C : Addr) (cl : List (Str × Addr)) (fp : List Addr), PE (X.blk s H scope (compEnvC scope cl C X.env) fp) kx tk)
    (hv : ∀ (s : Shared) (H : Hp) (C : Addr) (cl : List (Str × Addr)) (fp : List Addr), PE (X.blk s H scope (compEnvC scope cl C X.env) fp) vx tv)
    (hs : ∀ x, foldedSetIterable iter X.env x = pure x := by intro _; rfl) (hs1 : ∀ env x, foldedSetIterable iter1 env x = pure x := by intro _ _; rfl) :
    PE X (.DictComp kx vx [⟨tg, iter, ifs, 0⟩, ⟨tg1, iter1, ifs1, 0⟩] scope pos) (tDcG wi g tt (fun D => tIn wi1 g1 tt1 vs1 (tEmD tk tv D)) (own.map (·.2))) := by
  refine pe_dcG (em := fun acc env => emI (.DictComp kx vx [⟨tg, iter, ifs, 0⟩, ⟨tg1, iter1, ifs1, 0⟩] scope pos) 1 iter1 acc env) hc hN hi ok hg ht (fun s H C cl fp D => ?_) (fun _ _ _ => rfl) hs
  refine runs_in (Y := X.blk s H scope (compEnvC scope cl C X.env) fp) (gc := ⟨tg1, iter1, ifs1, 0⟩) hc rfl hv1 (hi1 s H C cl fp) (hg1 s H C cl fp) (ht1 s H C cl fp) (em := fun k => emD kx vx (.ref D) (compEnvC scope cl C X.env) k) ?_ (hs1 _) (fun _ => rfl) (fun _ => rfl) (fun _ => rfl) (fun _ => rfl) (fun _ => rfl) rfl rfl (fun _ => rfl)
  exact runs_put (Y := X.blk s H scope (compEnvC scope cl C X.env) fp) hu rfl vs1 (hk s H C cl fp) (hv s H C cl fp)
/-! ### sorted of any alike data -/
theorem each_zip {R : Value → V × PyData → Prop} : ∀ {xs : List V} {us : List Value} {ds : List PyData}, Vals xs us → xs.length = ds.length → (∀ x u d, (x, d) ∈ xs.zip ds → RelV x u → R u (x, d)) → W.EachIs R us (xs.zip ds)
  | [], _, [], .nil, _, _ => .nil
  | x :: xs, _, d :: ds, .cons r rs, h, g => .cons (g x _ d List.mem_cons_self r) (each_zip rs (by simpa using h) fun y u e m => g y u e (List.mem_cons_of_mem _ m))
theorem vals_each : ∀ {us : List Value} {bs : List (V × PyData)}, W.EachIs (fun u (b : V × PyData) => RelV b.1 u) us bs → Vals (bs.map (·.1)) us
  | [], [], .nil => .nil
  | _ :: _, _ :: _, .cons r rs => .cons r (vals_each rs)
def srtD (xs : List V) (ds : List PyData) : List (V × PyData) := (xs.zip ds).mergeSort (W.dataLe false fun b => b.2)
theorem dpAll_len {K : PySem.W.Frag} {H : Hp} : ∀ {xs : List V} {ds : List PyData}, DpAll K H xs ds → xs.length = ds.length
  | [], [], _ => rfl
  | x :: xs, [], h => by cases h
  | [], d :: ds, h => by cases h
  | x :: xs, d :: ds, h => by
    cases h with
    | cons a b => rw [List.length_cons, List.length_cons, dpAll_len b]
theorem dpAll_zip {K : PySem.W.Frag} {H : Hp} : ∀ {xs : List V} {ds : List PyData}, DpAll K H xs ds → ∀ x d, (x, d) ∈ xs.zip ds → Dp K H x d
  | [], _, _, x, d, m => by cases m
  | x :: xs, [], h, y, e, m => by cases m
  | x :: xs, d :: ds, h, y, e, m => by
    cases h with
    | cons a b =>
      rcases List.mem_cons.mp m with m | m
      · injection m with m1 m2
        rw [m1, m2]
        exact a
      · exact dpAll_zip b y e m
theorem dpAll_of {K : PySem.W.Frag} {H : Hp} : ∀ {bs : List (V × PyData)}, (∀ b ∈ bs, Dp K H b.1 b.2) → DpAll K H (bs.map (·.1)) (bs.map (·.2))
  | [], _ => .nil
  | b :: bs, h => .cons (h b List.mem_cons_self) (dpAll_of fun c m => h c (List.mem_cons_of_mem _ m))
theorem srtD_dp {K : PySem.W.Frag} {H : Hp} {xs : List V} {ds : List PyData} (h : DpAll K H xs ds) : DpAll K H ((srtD xs ds).map (·.1)) ((srtD xs ds).map (·.2)) :=
  dpAll_of fun b m => dpAll_zip h b.1 b.2 ((List.mergeSort_perm _ _).mem_iff.mp m)
theorem srtD_data {xs : List V} {ds : List PyData} (h : xs.length = ds.length) : (srtD xs ds).map (·.2) = ds.mergeSort (W.dataLe false id) := by
  unfold srtD
  have e := List.map_mergeSort (r := W.dataLe false fun b : V × PyData => b.2) (s := W.dataLe false id) (f := fun b : V × PyData => b.2) (l := xs.zip ds) (fun a _ b _ => rfl)
  have z : (xs.zip ds).map (fun b : V × PyData => b.2) = ds := by
    show (xs.zip ds).map Prod.snd = ds
    rw [List.map_snd_zip]
    omega
  rw [z] at e
  exact e
section
variable {X : Cx}
theorem cr_sortedD (hu : X.A.units + 64 < cLine) : CallR X (.builtin "sorted") (fun us H Q => ∃ (a : Addr) (xs : List V) (ds : List PyData), us = [.ref a] ∧ SqL X.K H a xs ∧ DpAll X.K H xs ds ∧ W.AllAlike ds ∧ W.Sortable ds ∧ (∀ d ∈ ds, d.depth ≤ 60) ∧
    ∀ p, H p = none → Q (.ref p) (upd H p (.lst ((srtD xs ds).map (·.1))))) := by
  intro pins s σ H vs us Q I r h
  obtain ⟨a, xs, ds, rfl, hs, dp, al, so, dep, q⟩ := h
  obtain ⟨its, rv, hl, hz⟩ := I.list hs
  rw [Vals.ref1 r]
  have len := dpAll_len dp
  have lz : (xs.zip ds).map (·.2) = ds := by
    rw [List.map_snd_zip]
    omega
  have lb : (xs.zip ds).length = xs.length := by rw [List.length_zip, len, Nat.min_self]
  refine W.sorted_data (R := fun u (b : V × PyData) => RelV b.1 u) (enc := fun b : V × PyData => b.2) (bs := xs.zip ds) hl.isList (each_zip rv len fun _ _ _ _ r => r) (each_zip rv len fun x u d m r => Dp.reads I d x u (dpAll_zip dp x d m) r) (by rw [lz]; exact al) (by rw [lz]; exact so) (by rw [lb]; exact hz) (fun b m => ?_) fun out ho eo => ?_
  · have := dep b.2 (by rw [← lz]; exact List.mem_map.mpr ⟨b, m, rfl⟩)
    omega
  · obtain ⟨ep, he'⟩ := PyProof.Rows.sortedAll_at s.heap its (List.toArray out)
    have vo := vals_each eo
    exact ⟨.ref _, upd H (s.heap.objs.size + 1) (.lst ((srtD xs ds).map (·.1))), I.laid (t' := s.toks) (fun _ _ => PyProof.Rows.sortedAll_old) (Nat.le_succ _) ⟨by
      have hl2 : (srtD xs ds).length = xs.length := by unfold srtD; rw [List.length_mergeSort, lb]
      rw [List.length_map, hl2]
      exact hz, out, ep, vo, he'⟩, rfl, q _ (I.hok.fresh (Nat.le_succ _))⟩
/-! ### math.comb -/
theorem cr_comb : CallR X (.builtin "math.comb") (fun vs H Q => ∃ a b : Nat, vs = [.int (a : Int), .int (b : Int)] ∧ a ≤ 1000 ∧ b ≤ a ∧ ∀ c : Nat, 0 < c → Q (.int (c : Int)) H) := by
  intro pins s σ H vs us Q I r h
  obtain ⟨a, b, rfl, ha, hb, q⟩ := h
  obtain ⟨t, u, rfl⟩ := Vals.int2 r
  refine PySem.W.mc_comb (by omega) (by omega) (by omega) (.inl (by omega)) fun m => ?_
  obtain ⟨m1, m2, _⟩ := m
  have m2 := m2 (by omega)
  obtain ⟨c, ec⟩ := Int.eq_ofNat_of_zero_le m1
  have c0 : 0 < c := by omega
  refine ⟨.int _, H, I.tok _, ⟨_, rfl⟩, ?_⟩
  rw [ec]
  exact q c c0
end
end Vx
namespace My
open PySem PySem.Spec PyProof.Rows L2 Vx
def topS (i : Nat) : Stmt := PySem.Challenge.pw_longlife_k09_middles_and_futures.main.body.getD i (.Pass ⟨0, 0, 0, 0⟩)
abbrev s_sums_of : Stmt := topS 2
abbrev N_sums_of : List Str := ["left", "alive", "right", "odd"]
theorem sc_sums_of : FnScope N_sums_of ["left", "alive", "right"] (defScope s_sums_of) := ⟨rfl, rfl, rfl, by decide +kernel, rfl, by decide +kernel, by decide +kernel⟩
abbrev s_totals_of : Stmt := topS 3
abbrev N_totals_of : List Str := ["above", "here", "below", "above_ones", "above_twos", "here_ones", "here_twos", "below_ones", "below_twos", "odd", "carried", "first", "second", "first_four", "second_four", "fours"]
theorem sc_totals_of : FnScope N_totals_of ["above", "here", "below"] (defScope s_totals_of) := ⟨rfl, rfl, rfl, by decide +kernel, rfl, by decide +kernel, by decide +kernel⟩
abbrev s_next_strip : Stmt := topS 4
abbrev N_next_strip : List Str := ["alive", "totals", "rule", "ones", "twos", "fours", "eights", "near", "not_ones", "not_twos", "low", "high", "born", "number", "kept", "total"]
theorem sc_next_strip : FnScope N_next_strip ["alive", "totals", "rule"] (defScope s_next_strip) := ⟨rfl, rfl, rfl, by decide +kernel, rfl, by decide +kernel, by decide +kernel⟩
abbrev s_place_of : Stmt := topS 8
abbrev N_place_of : List Str := ["row", "column", "at"]
theorem sc_place_of : FnScope N_place_of ["row", "column"] (defScope s_place_of) := ⟨rfl, rfl, rfl, by decide +kernel, rfl, by decide +kernel, by decide +kernel⟩
abbrev s_blocks_of : Stmt := topS 9
abbrev N_blocks_of : List Str := ["cells", "blocks", "row", "column", "place", "block"]
theorem sc_blocks_of : FnScope N_blocks_of ["cells"] (defScope s_blocks_of) := ⟨rfl, rfl, rfl, by decide +kernel, rfl, by decide +kernel, by decide +kernel⟩
abbrev s_block_cells : Stmt := topS 10
abbrev N_block_cells : List Str := ["block", "cells", "lowest"]
theorem sc_block_cells : FnScope N_block_cells ["block"] (defScope s_block_cells) := ⟨rfl, rfl, rfl, by decide +kernel, rfl, by decide +kernel, by decide +kernel⟩
abbrev s_block_count : Stmt := topS 11
abbrev N_block_count : List Str := ["block", "digits"]
theorem sc_block_count : FnScope N_block_count ["block"] (defScope s_block_count) := ⟨rfl, rfl, rfl, by decide +kernel, rfl, by decide +kernel, by decide +kernel⟩
abbrev s_next_block : Stmt := topS 12
abbrev N_next_block : List Str := ["block", "rule", "ones", "twos", "totals"]
theorem sc_next_block : FnScope N_next_block ["block", "rule"] (defScope s_next_block) := ⟨rfl, rfl, rfl, by decide +kernel, rfl, by decide +kernel, by decide +kernel⟩
abbrev s_Blocks_init : Stmt := inClass (topS 13) 0
abbrev N_Blocks_init : List Str := ["self", "rule", "level"]
theorem sc_Blocks_init : FnScope N_Blocks_init ["self", "rule"] (defScope s_Blocks_init) := ⟨rfl, rfl, rfl, by decide +kernel, rfl, by decide +kernel, by decide +kernel⟩
abbrev s_Blocks_cut : Stmt := inClass (topS 13) 1
abbrev N_Blocks_cut : List Str := ["self", "level", "block", "row", "column"]
theorem sc_Blocks_cut : FnScope N_Blocks_cut ["self", "level", "block", "row", "column"] (defScope s_Blocks_cut) := ⟨rfl, rfl, rfl, by decide +kernel, rfl, by decide +kernel, by decide +kernel⟩
abbrev s_Blocks_quarters : Stmt := inClass (topS 13) 2
abbrev N_Blocks_quarters : List Str := ["self", "level", "block", "half", "places", "row", "column"]
theorem sc_Blocks_quarters : FnScope N_Blocks_quarters ["self", "level", "block"] (defScope s_Blocks_quarters) := ⟨rfl, rfl, rfl, by decide +kernel, rfl, by decide +kernel, by decide +kernel⟩
abbrev s_Blocks_put_together : Stmt := inClass (topS 13) 3
abbrev N_Blocks_put_together : List Str := ["self", "level", "a", "b", "c", "d", "half"]
theorem sc_Blocks_put_together : FnScope N_Blocks_put_together ["self", "level", "a", "b", "c", "d"] (defScope s_Blocks_put_together) := ⟨rfl, rfl, rfl, by decide +kernel, rfl, by decide +kernel, by decide +kernel⟩
abbrev s_Blocks_centre : Stmt := inClass (topS 13) 4
abbrev N_Blocks_centre : List Str := ["self", "level", "block", "quarter"]
theorem sc_Blocks_centre : FnScope N_Blocks_centre ["self", "level", "block"] (defScope s_Blocks_centre) := ⟨rfl, rfl, rfl, by decide +kernel, rfl, by decide +kernel, by decide +kernel⟩
abbrev s_Blocks_centre_after : Stmt := inClass (topS 13) 5
abbrev N_Blocks_centre_after : List Str := ["self", "level", "block", "generations", "_"]
theorem sc_Blocks_centre_after : FnScope N_Blocks_centre_after ["self", "level", "block", "generations"] (defScope s_Blocks_centre_after) := ⟨rfl, rfl, rfl, by decide +kernel, rfl, by decide +kernel, by decide +kernel⟩
abbrev s_full_block : Stmt := topS 14
abbrev N_full_block : List Str := ["level", "size", "row", "first_cells"]
theorem sc_full_block : FnScope N_full_block ["level"] (defScope s_full_block) := ⟨rfl, rfl, rfl, by decide +kernel, rfl, by decide +kernel, by decide +kernel⟩
abbrev s_Store_init : Stmt := inClass (topS 16) 0
abbrev N_Store_init : List Str := ["self", "rule"]
theorem sc_Store_init : FnScope N_Store_init ["self", "rule"] (defScope s_Store_init) := ⟨rfl, rfl, rfl, by decide +kernel, rfl, by decide +kernel, by decide +kernel⟩
abbrev s_Store_joined : Stmt := inClass (topS 16) 1
abbrev N_Store_joined : List Str := ["self", "a", "b", "c", "d", "level", "bits", "parts", "counts", "count"]
theorem sc_Store_joined : FnScope N_Store_joined ["self", "a", "b", "c", "d"] (defScope s_Store_joined) := ⟨rfl, rfl, rfl, by decide +kernel, rfl, by decide +kernel, by decide +kernel⟩
abbrev s_Store_small : Stmt := inClass (topS 16) 2
abbrev N_Store_small : List Str := ["self", "level", "block", "kept"]
theorem sc_Store_small : FnScope N_Store_small ["self", "level", "block"] (defScope s_Store_small) := ⟨rfl, rfl, rfl, by decide +kernel, rfl, by decide +kernel, by decide +kernel⟩
abbrev s_Store_new_square : Stmt := inClass (topS 16) 3
abbrev N_Store_new_square : List Str := ["self", "level", "count", "block", "parts"]
theorem sc_Store_new_square : FnScope N_Store_new_square ["self", "level", "count", "block", "parts"] (defScope s_Store_new_square) := ⟨rfl, rfl, rfl, by decide +kernel, rfl, by decide +kernel, by decide +kernel⟩
abbrev s_Store_level : Stmt := inClass (topS 16) 5
abbrev N_Store_level : List Str := ["self", "square"]
theorem sc_Store_level : FnScope N_Store_level ["self", "square"] (defScope s_Store_level) := ⟨rfl, rfl, rfl, by decide +kernel, rfl, by decide +kernel, by decide +kernel⟩
abbrev s_Store_parts : Stmt := inClass (topS 16) 6
abbrev N_Store_parts : List Str := ["self", "square", "level", "blocks", "block"]
theorem sc_Store_parts : FnScope N_Store_parts ["self", "square"] (defScope s_Store_parts) := ⟨rfl, rfl, rfl, by decide +kernel, rfl, by decide +kernel, by decide +kernel⟩
abbrev s_Store_empty : Stmt := inClass (topS 16) 8
abbrev N_Store_empty : List Str := ["self", "level", "part"]
theorem sc_Store_empty : FnScope N_Store_empty ["self", "level"] (defScope s_Store_empty) := ⟨rfl, rfl, rfl, by decide +kernel, rfl, by decide +kernel, by decide +kernel⟩
abbrev s_Store_built : Stmt := inClass (topS 16) 9
abbrev N_Store_built : List Str := ["self", "cells", "level", "blocks", "layout", "place", "block"]
theorem sc_Store_built : FnScope N_Store_built ["self", "cells", "level"] (defScope s_Store_built) := ⟨rfl, rfl, rfl, by decide +kernel, rfl, by decide +kernel, by decide +kernel⟩
abbrev s_Store_cells : Stmt := inClass (topS 16) 10
abbrev N_Store_cells : List Str := ["self", "square", "found", "waiting", "part", "row", "column", "half", "a", "b", "c", "d", "down", "beside"]
theorem sc_Store_cells : FnScope N_Store_cells ["self", "square"] (defScope s_Store_cells) := ⟨rfl, rfl, rfl, by decide +kernel, rfl, by decide +kernel, by decide +kernel⟩
abbrev s_Store_middle : Stmt := inClass (topS 16) 11
abbrev N_Store_middle : List Str := ["self", "square", "level", "a", "b", "c", "d"]
theorem sc_Store_middle : FnScope N_Store_middle ["self", "square"] (defScope s_Store_middle) := ⟨rfl, rfl, rfl, by decide +kernel, rfl, by decide +kernel, by decide +kernel⟩
abbrev s_Store_future : Stmt := inClass (topS 16) 12
abbrev N_Store_future : List Str := ["self", "square", "j", "asked"]
theorem sc_Store_future : FnScope N_Store_future ["self", "square", "j"] (defScope s_Store_future) := ⟨rfl, rfl, rfl, by decide +kernel, rfl, by decide +kernel, by decide +kernel⟩
abbrev s_Store_new_future : Stmt := inClass (topS 16) 13
abbrev N_Store_new_future : List Str := ["self", "square", "j", "level", "block", "whole", "later", "nine", "a", "b", "c", "d", "part"]
theorem sc_Store_new_future : FnScope N_Store_new_future ["self", "square", "j"] (defScope s_Store_new_future) := ⟨rfl, rfl, rfl, by decide +kernel, rfl, by decide +kernel, by decide +kernel⟩
abbrev s_Store_nine : Stmt := inClass (topS 16) 14
abbrev N_Store_nine : List Str := ["self", "square", "a", "b", "c", "d", "a0", "a1", "a2", "a3", "b0", "b1", "b2", "b3", "c0", "c1", "c2", "c3", "d0", "d1", "d2", "d3"]
theorem sc_Store_nine : FnScope N_Store_nine ["self", "square"] (defScope s_Store_nine) := ⟨rfl, rfl, rfl, by decide +kernel, rfl, by decide +kernel, by decide +kernel⟩
abbrev s_Store_four : Stmt := inClass (topS 16) 15
abbrev N_Store_four : List Str := ["self", "nine", "at"]
theorem sc_Store_four : FnScope N_Store_four ["self", "nine"] (defScope s_Store_four) := ⟨rfl, rfl, rfl, by decide +kernel, rfl, by decide +kernel, by decide +kernel⟩
abbrev s_Store_at_level : Stmt := inClass (topS 16) 16
abbrev N_Store_at_level : List Str := ["self", "layout", "level", "wanted", "part_level", "_"]
theorem sc_Store_at_level : FnScope N_Store_at_level ["self", "layout", "level", "wanted"] (defScope s_Store_at_level) := ⟨rfl, rfl, rfl, by decide +kernel, rfl, by decide +kernel, by decide +kernel⟩
abbrev s_Store_raised : Stmt := inClass (topS 16) 17
abbrev N_Store_raised : List Str := ["self", "layout", "level", "none", "fours", "row", "column", "square", "place", "a", "b", "c", "d"]
theorem sc_Store_raised : FnScope N_Store_raised ["self", "layout", "level"] (defScope s_Store_raised) := ⟨rfl, rfl, rfl, by decide +kernel, rfl, by decide +kernel, by decide +kernel⟩
abbrev s_Store_lowered : Stmt := inClass (topS 16) 18
abbrev N_Store_lowered : List Str := ["self", "layout", "lower", "row", "column", "square", "at", "part"]
theorem sc_Store_lowered : FnScope N_Store_lowered ["self", "layout"] (defScope s_Store_lowered) := ⟨rfl, rfl, rfl, by decide +kernel, rfl, by decide +kernel, by decide +kernel⟩
abbrev s_Rule_init : Stmt := inClass (topS 18) 0
abbrev N_Rule_init : List Str := ["self", "births", "survival"]
theorem sc_Rule_init : FnScope N_Rule_init ["self", "births", "survival"] (defScope s_Rule_init) := ⟨rfl, rfl, rfl, by decide +kernel, rfl, by decide +kernel, by decide +kernel⟩
abbrev s_law_cell : Stmt := topS 20
abbrev N_law_cell : List Str := ["script", "k"]
theorem sc_law_cell : FnScope N_law_cell ["script", "k"] (defScope s_law_cell) := ⟨rfl, rfl, rfl, by decide +kernel, rfl, by decide +kernel, by decide +kernel⟩
abbrev s_law_row : Stmt := topS 21
abbrev N_law_row : List Str := ["cell", "count", "bound", "rest", "mixed", "row", "k"]
theorem sc_law_row : FnScope N_law_row ["cell", "count", "bound"] (defScope s_law_row) := ⟨rfl, rfl, rfl, by decide +kernel, rfl, by decide +kernel, by decide +kernel⟩
abbrev s_law_numbers : Stmt := topS 24
abbrev N_law_numbers : List Str := ["cell", "x", "births", "survival", "k"]
theorem sc_law_numbers : FnScope N_law_numbers ["cell"] (defScope s_law_numbers) := ⟨rfl, rfl, rfl, by decide +kernel, rfl, by decide +kernel, by decide +kernel⟩
abbrev s_law_some : Stmt := topS 25
abbrev N_law_some : List Str := ["cell", "count", "height", "width", "x", "found", "y", "place"]
theorem sc_law_some : FnScope N_law_some ["cell", "count", "height", "width"] (defScope s_law_some) := ⟨rfl, rfl, rfl, by decide +kernel, rfl, by decide +kernel, by decide +kernel⟩
abbrev s_law_next : Stmt := topS 26
abbrev N_law_next : List Str := ["cells", "births", "survival", "counts", "alive", "r", "c", "i", "j", "found", "place"]
theorem sc_law_next : FnScope N_law_next ["cells", "births", "survival"] (defScope s_law_next) := ⟨rfl, rfl, rfl, by decide +kernel, rfl, by decide +kernel, by decide +kernel⟩
abbrev s_law_middle : Stmt := topS 27
abbrev N_law_middle : List Str := ["cells", "level", "quarter", "r", "c"]
theorem sc_law_middle : FnScope N_law_middle ["cells", "level"] (defScope s_law_middle) := ⟨rfl, rfl, rfl, by decide +kernel, rfl, by decide +kernel, by decide +kernel⟩
abbrev s_law : Stmt := topS 28
abbrev N_law : List Str := ["script", "births", "survival", "store", "k", "x", "level", "cells", "square", "j", "first", "now", "power", "turn", "told"]
theorem sc_law : FnScope N_law ["script"] (defScope s_law) := ⟨rfl, rfl, rfl, by decide +kernel, rfl, by decide +kernel, by decide +kernel⟩
structure Txt (K : PySem.W.Frag) (mg : Str → Option Value) where
  C_Blocks : Addr
  g_Blocks : mg "Blocks" = some (.ref C_Blocks)
  cl_Blocks : Cls K C_Blocks
  na_Blocks__rule : NoAttr K C_Blocks "_rule"
  na_Blocks__full : NoAttr K C_Blocks "_full"
  C_Store : Addr
  g_Store : mg "Store" = some (.ref C_Store)
  cl_Store : Cls K C_Store
  na_Store__rule : NoAttr K C_Store "_rule"
  na_Store__blocks : NoAttr K C_Store "_blocks"
  na_Store__levels : NoAttr K C_Store "_levels"
  na_Store__counts : NoAttr K C_Store "_counts"
  na_Store__bits : NoAttr K C_Store "_bits"
  na_Store__parts : NoAttr K C_Store "_parts"
  na_Store__small : NoAttr K C_Store "_small"
  na_Store__large : NoAttr K C_Store "_large"
  na_Store__empty : NoAttr K C_Store "_empty"
  na_Store__futures : NoAttr K C_Store "_futures"
  C_Rule : Addr
  g_Rule : mg "Rule" = some (.ref C_Rule)
  cl_Rule : Cls K C_Rule
  na_Rule_births : NoAttr K C_Rule "births"
  na_Rule_survival : NoAttr K C_Rule "survival"
  f_sums_of : Addr
  d_sums_of : FuncData
  F_sums_of : Fun K "sums_of" "sums_of" s_sums_of f_sums_of d_sums_of
  b_sums_of : Binds K d_sums_of ["left", "alive", "right"] []
  g_sums_of : mg "sums_of" = some (.ref f_sums_of)
  f_totals_of : Addr
  d_totals_of : FuncData
  F_totals_of : Fun K "totals_of" "totals_of" s_totals_of f_totals_of d_totals_of
  b_totals_of : Binds K d_totals_of ["above", "here", "below"] []
  g_totals_of : mg "totals_of" = some (.ref f_totals_of)
  f_next_strip : Addr
  d_next_strip : FuncData
  F_next_strip : Fun K "next_strip" "next_strip" s_next_strip f_next_strip d_next_strip
  b_next_strip : Binds K d_next_strip ["alive", "totals", "rule"] []
  g_next_strip : mg "next_strip" = some (.ref f_next_strip)
  f_place_of : Addr
  d_place_of : FuncData
  F_place_of : Fun K "place_of" "place_of" s_place_of f_place_of d_place_of
  b_place_of : Binds K d_place_of ["row", "column"] []
  g_place_of : mg "place_of" = some (.ref f_place_of)
  f_blocks_of : Addr
  d_blocks_of : FuncData
  F_blocks_of : Fun K "blocks_of" "blocks_of" s_blocks_of f_blocks_of d_blocks_of
  b_blocks_of : Binds K d_blocks_of ["cells"] []
  g_blocks_of : mg "blocks_of" = some (.ref f_blocks_of)
  f_block_cells : Addr
  d_block_cells : FuncData
  F_block_cells : Fun K "block_cells" "block_cells" s_block_cells f_block_cells d_block_cells
  b_block_cells : Binds K d_block_cells ["block"] []
  g_block_cells : mg "block_cells" = some (.ref f_block_cells)
  f_block_count : Addr
  d_block_count : FuncData
  F_block_count : Fun K "block_count" "block_count" s_block_count f_block_count d_block_count
  b_block_count : Binds K d_block_count ["block"] []
  g_block_count : mg "block_count" = some (.ref f_block_count)
  f_next_block : Addr
  d_next_block : FuncData
  F_next_block : Fun K "next_block" "next_block" s_next_block f_next_block d_next_block
  b_next_block : Binds K d_next_block ["block", "rule"] []
  g_next_block : mg "next_block" = some (.ref f_next_block)
  f_Blocks_init : Addr
  d_Blocks_init : FuncData
  F_Blocks_init : Fun K "__init__" "Blocks.__init__" s_Blocks_init f_Blocks_init d_Blocks_init
  b_Blocks_init : Binds K d_Blocks_init ["self", "rule"] []
  M_Blocks : Mk K C_Blocks f_Blocks_init
  f_Blocks_cut : Addr
  d_Blocks_cut : FuncData
  F_Blocks_cut : Fun K "cut" "Blocks.cut" s_Blocks_cut f_Blocks_cut d_Blocks_cut
  b_Blocks_cut : Binds K d_Blocks_cut ["self", "level", "block", "row", "column"] []
  m_Blocks_cut : Meth K C_Blocks "cut" f_Blocks_cut
  f_Blocks_quarters : Addr
  d_Blocks_quarters : FuncData
  F_Blocks_quarters : Fun K "quarters" "Blocks.quarters" s_Blocks_quarters f_Blocks_quarters d_Blocks_quarters
  b_Blocks_quarters : Binds K d_Blocks_quarters ["self", "level", "block"] []
  m_Blocks_quarters : Meth K C_Blocks "quarters" f_Blocks_quarters
  f_Blocks_put_together : Addr
  d_Blocks_put_together : FuncData
  F_Blocks_put_together : Fun K "put_together" "Blocks.put_together" s_Blocks_put_together f_Blocks_put_together d_Blocks_put_together
  b_Blocks_put_together : Binds K d_Blocks_put_together ["self", "level", "a", "b", "c", "d"] []
  m_Blocks_put_together : Meth K C_Blocks "put_together" f_Blocks_put_together
  f_Blocks_centre : Addr
  d_Blocks_centre : FuncData
  F_Blocks_centre : Fun K "centre" "Blocks.centre" s_Blocks_centre f_Blocks_centre d_Blocks_centre
  b_Blocks_centre : Binds K d_Blocks_centre ["self", "level", "block"] []
  m_Blocks_centre : Meth K C_Blocks "centre" f_Blocks_centre
  f_Blocks_centre_after : Addr
  d_Blocks_centre_after : FuncData
  F_Blocks_centre_after : Fun K "centre_after" "Blocks.centre_after" s_Blocks_centre_after f_Blocks_centre_after d_Blocks_centre_after
  b_Blocks_centre_after : Binds K d_Blocks_centre_after ["self", "level", "block", "generations"] []
  m_Blocks_centre_after : Meth K C_Blocks "centre_after" f_Blocks_centre_after
  f_full_block : Addr
  d_full_block : FuncData
  F_full_block : Fun K "_full_block" "_full_block" s_full_block f_full_block d_full_block
  b_full_block : Binds K d_full_block ["level"] []
  g_full_block : mg "_full_block" = some (.ref f_full_block)
  f_Store_init : Addr
  d_Store_init : FuncData
  F_Store_init : Fun K "__init__" "Store.__init__" s_Store_init f_Store_init d_Store_init
  b_Store_init : Binds K d_Store_init ["self", "rule"] []
  M_Store : Mk K C_Store f_Store_init
  f_Store_joined : Addr
  d_Store_joined : FuncData
  F_Store_joined : Fun K "joined" "Store.joined" s_Store_joined f_Store_joined d_Store_joined
  b_Store_joined : Binds K d_Store_joined ["self", "a", "b", "c", "d"] []
  m_Store_joined : Meth K C_Store "joined" f_Store_joined
  f_Store_small : Addr
  d_Store_small : FuncData
  F_Store_small : Fun K "small" "Store.small" s_Store_small f_Store_small d_Store_small
  b_Store_small : Binds K d_Store_small ["self", "level", "block"] []
  m_Store_small : Meth K C_Store "small" f_Store_small
  f_Store_new_square : Addr
  d_Store_new_square : FuncData
  F_Store_new_square : Fun K "_new_square" "Store._new_square" s_Store_new_square f_Store_new_square d_Store_new_square
  b_Store_new_square : Binds K d_Store_new_square ["self", "level", "count", "block", "parts"] []
  m_Store_new_square : Meth K C_Store "_new_square" f_Store_new_square
  f_Store_level : Addr
  d_Store_level : FuncData
  F_Store_level : Fun K "level" "Store.level" s_Store_level f_Store_level d_Store_level
  b_Store_level : Binds K d_Store_level ["self", "square"] []
  m_Store_level : Meth K C_Store "level" f_Store_level
  f_Store_parts : Addr
  d_Store_parts : FuncData
  F_Store_parts : Fun K "parts" "Store.parts" s_Store_parts f_Store_parts d_Store_parts
  b_Store_parts : Binds K d_Store_parts ["self", "square"] []
  m_Store_parts : Meth K C_Store "parts" f_Store_parts
  f_Store_empty : Addr
  d_Store_empty : FuncData
  F_Store_empty : Fun K "empty" "Store.empty" s_Store_empty f_Store_empty d_Store_empty
  b_Store_empty : Binds K d_Store_empty ["self", "level"] []
  m_Store_empty : Meth K C_Store "empty" f_Store_empty
  f_Store_built : Addr
  d_Store_built : FuncData
  F_Store_built : Fun K "built" "Store.built" s_Store_built f_Store_built d_Store_built
  b_Store_built : Binds K d_Store_built ["self", "cells", "level"] []
  m_Store_built : Meth K C_Store "built" f_Store_built
  f_Store_cells : Addr
  d_Store_cells : FuncData
  F_Store_cells : Fun K "cells" "Store.cells" s_Store_cells f_Store_cells d_Store_cells
  b_Store_cells : Binds K d_Store_cells ["self", "square"] []
  m_Store_cells : Meth K C_Store "cells" f_Store_cells
  f_Store_middle : Addr
  d_Store_middle : FuncData
  F_Store_middle : Fun K "middle" "Store.middle" s_Store_middle f_Store_middle d_Store_middle
  b_Store_middle : Binds K d_Store_middle ["self", "square"] []
  m_Store_middle : Meth K C_Store "middle" f_Store_middle
  f_Store_future : Addr
  d_Store_future : FuncData
  F_Store_future : Fun K "future" "Store.future" s_Store_future f_Store_future d_Store_future
  b_Store_future : Binds K d_Store_future ["self", "square", "j"] []
  m_Store_future : Meth K C_Store "future" f_Store_future
  f_Store_new_future : Addr
  d_Store_new_future : FuncData
  F_Store_new_future : Fun K "_new_future" "Store._new_future" s_Store_new_future f_Store_new_future d_Store_new_future
  b_Store_new_future : Binds K d_Store_new_future ["self", "square", "j"] []
  m_Store_new_future : Meth K C_Store "_new_future" f_Store_new_future
  f_Store_nine : Addr
  d_Store_nine : FuncData
  F_Store_nine : Fun K "_nine" "Store._nine" s_Store_nine f_Store_nine d_Store_nine
  b_Store_nine : Binds K d_Store_nine ["self", "square"] []
  m_Store_nine : Meth K C_Store "_nine" f_Store_nine
  f_Store_four : Addr
  d_Store_four : FuncData
  F_Store_four : Fun K "_four" "Store._four" s_Store_four f_Store_four d_Store_four
  b_Store_four : Binds K d_Store_four ["self", "nine"] []
  m_Store_four : Meth K C_Store "_four" f_Store_four
  f_Store_at_level : Addr
  d_Store_at_level : FuncData
  F_Store_at_level : Fun K "at_level" "Store.at_level" s_Store_at_level f_Store_at_level d_Store_at_level
  b_Store_at_level : Binds K d_Store_at_level ["self", "layout", "level", "wanted"] []
  m_Store_at_level : Meth K C_Store "at_level" f_Store_at_level
  f_Store_raised : Addr
  d_Store_raised : FuncData
  F_Store_raised : Fun K "_raised" "Store._raised" s_Store_raised f_Store_raised d_Store_raised
  b_Store_raised : Binds K d_Store_raised ["self", "layout", "level"] []
  m_Store_raised : Meth K C_Store "_raised" f_Store_raised
  f_Store_lowered : Addr
  d_Store_lowered : FuncData
  F_Store_lowered : Fun K "_lowered" "Store._lowered" s_Store_lowered f_Store_lowered d_Store_lowered
  b_Store_lowered : Binds K d_Store_lowered ["self", "layout"] []
  m_Store_lowered : Meth K C_Store "_lowered" f_Store_lowered
  f_Rule_init : Addr
  d_Rule_init : FuncData
  F_Rule_init : Fun K "__init__" "Rule.__init__" s_Rule_init f_Rule_init d_Rule_init
  b_Rule_init : Binds K d_Rule_init ["self", "births", "survival"] []
  M_Rule : Mk K C_Rule f_Rule_init
  f_law_cell : Addr
  d_law_cell : FuncData
  F_law_cell : Fun K "_law_cell" "_law_cell" s_law_cell f_law_cell d_law_cell
  b_law_cell : Binds K d_law_cell ["script", "k"] []
  g_law_cell : mg "_law_cell" = some (.ref f_law_cell)
  f_law_row : Addr
  d_law_row : FuncData
  F_law_row : Fun K "_law_row" "_law_row" s_law_row f_law_row d_law_row
  b_law_row : Binds K d_law_row ["cell", "count", "bound"] []
  g_law_row : mg "_law_row" = some (.ref f_law_row)
  f_law_numbers : Addr
  d_law_numbers : FuncData
  F_law_numbers : Fun K "_law_numbers" "_law_numbers" s_law_numbers f_law_numbers d_law_numbers
  b_law_numbers : Binds K d_law_numbers ["cell"] []
  g_law_numbers : mg "_law_numbers" = some (.ref f_law_numbers)
  f_law_some : Addr
  d_law_some : FuncData
  F_law_some : Fun K "_law_some" "_law_some" s_law_some f_law_some d_law_some
  b_law_some : Binds K d_law_some ["cell", "count", "height", "width"] []
  g_law_some : mg "_law_some" = some (.ref f_law_some)
  f_law_next : Addr
  d_law_next : FuncData
  F_law_next : Fun K "_law_next" "_law_next" s_law_next f_law_next d_law_next
  b_law_next : Binds K d_law_next ["cells", "births", "survival"] []
  g_law_next : mg "_law_next" = some (.ref f_law_next)
  f_law_middle : Addr
  d_law_middle : FuncData
  F_law_middle : Fun K "_law_middle" "_law_middle" s_law_middle f_law_middle d_law_middle
  b_law_middle : Binds K d_law_middle ["cells", "level"] []
  g_law_middle : mg "_law_middle" = some (.ref f_law_middle)
  f_law : Addr
  d_law : FuncData
  F_law : Fun K "law" "law" s_law f_law d_law
  b_law : Binds K d_law ["script"] []
  g_law : mg "law" = some (.ref f_law)
  z_divmod : mg "divmod" = none
  z_range : mg "range" = none
  z_len : mg "len" = none
  z_tuple : mg "tuple" = none
  z_sorted : mg "sorted" = none
  z_enumerate : mg "enumerate" = none
  z_set : mg "set" = none
  z_int : mg "int" = none
  z_abs : mg "abs" = none
  z_min : mg "min" = none
  c_SIDE : ∃ u, mg "SIDE" = some u ∧ RelV (.int (32)) u
  c_TOP : ∃ u, mg "TOP" = some u ∧ RelV (.int (5)) u
end My
namespace My
open PySem PySem.Spec PyProof.Rows L2 Vx
open TL
local macro_rules | `(tactic| k_invariant "new" ($n, $H:ident, $e:ident, $h:ident)) => `(tactic| (generalize hE : upd _ _ _ = $H; obtain ⟨$e:ident, $h:ident⟩ := gen_e hE $n; clear hE))
local macro_rules | `(tactic| k_places) => `(tactic| first
  | assumption
  | exact lst_of (by assumption)
  | exact tup_of (by assumption)
  | (refine getS (by assumption) ?_; k_places)
  | (refine Same.seq (by assumption) ?_; k_places)
  | (refine tupS (by assumption) ?_; k_places)
  | (refine lst_of ?_; k_places)
  | (refine tup_of ?_; k_places))
local macro_rules | `(tactic| k_subL) => `(tactic| first
  | k_places
  | solve_by_elim (maxDepth := 10) [getS, lst_of, tup_of, Same.seq, tupS])
local macro_rules | `(tactic| k_offL) => `(tactic| first
  | (show (0 : Int) < _; first | omega | decide)
  | (refine ⟨?_, ?_⟩ <;> first | omega | decide)
  | exact .inr ⟨by decide, by decide⟩
  | exact .inl ⟨by decide, by decide⟩
  | exact .inl ⟨by omega, by omega⟩
  | omega)
local macro_rules | `(tactic| k_clsL) => `(tactic| exact Nat.le_of_ble_eq_true rfl)
local macro_rules | `(tactic| k_upd) => `(tactic| simp only [L2.start, List.map_cons, List.map_nil, List.length_cons, List.length_nil, List.replicate_succ, List.replicate_zero, List.cons_append, List.nil_append, List.set_cons_zero, List.set_cons_succ])
section
variable {P : Program} {w : World} {K : PySem.W.Frag} {mg : Str → Option Value} {base : Heap}
/-! ### rules -/
theorem bs_ne : ¬ (("births" : Str) = "survival") := by decide +kernel
theorem sb_ne : ¬ (("survival" : Str) = "births") := by decide +kernel
def rf (tb ts : Addr) : List (Str × V) := putF "survival" (.ref ts) (putF "births" (.ref tb) [])
theorem rf_b (tb ts : Addr) : (rf tb ts).lookup ("births" : Str) = some (.ref tb) := by
  unfold rf
  rw [lookup_putF, if_neg bs_ne, lookup_putF, if_pos rfl]
theorem rf_s (tb ts : Addr) : (rf tb ts).lookup ("survival" : Str) = some (.ref ts) := by
  unfold rf
  rw [lookup_putF, if_pos rfl]
theorem rf_no (tb ts : Addr) {m : Str} (h1 : ¬ m = "survival") (h2 : ¬ m = "births") : (rf tb ts).lookup m = none := by
  unfold rf
  rw [lookup_putF, if_neg h1, lookup_putF, if_neg h2]
  rfl
def RuleAt (C : Addr) (H : Hp) (r : Addr) (bs ss : List Int) : Prop :=
  ∃ dx tb ts, H r = some (.ins C dx (rf tb ts)) ∧ H tb = some (.tup (bs.map V.int)) ∧ H ts = some (.tup (ss.map V.int))
theorem RuleAt.up {C : Addr} {H H' : Hp} {r : Addr} {bs ss : List Int} (e : Same H H') (h : RuleAt C H r bs ss) : RuleAt C H' r bs ss := by
  obtain ⟨dx, tb, ts, h1, h2, h3⟩ := h
  exact ⟨dx, tb, ts, e _ _ h1, e _ _ h2, e _ _ h3⟩
def Canon (ns l : List Int) : Prop := l.Pairwise (· < ·) ∧ ∀ k, k ∈ l ↔ k ∈ ns
theorem canon_eq {ns l m : List Int} (h : Canon ns l) (h2 : m.Pairwise (· < ·)) (h3 : ∀ k, k ∈ ns ↔ k ∈ m) : l = m := asc_eq h.1 h2 fun k => (h.2 k).trans (h3 k)
def sp_Rule_init (K : PySem.W.Frag) (C : Addr) : Sp := fun vs H Q _ => ∃ (H0 : Hp) (r lb ls dx : Addr) (nb ns : List Int), vs = [.ref r, .ref lb, .ref ls] ∧ Same H0 H ∧ H0 r = none ∧ H r = some (.ins C dx []) ∧
  SqL K H0 lb (nb.map V.int) ∧ SqL K H0 ls (ns.map V.int) ∧ nb.length ≤ 63 ∧ ns.length ≤ 63 ∧
  ∀ (H' : Hp) (bs ss : List Int), Same H0 H' → RuleAt C H' r bs ss → Canon nb bs → Canon ns ss → Q .non H'
theorem ok_Rule_init (T : Txt K mg) : FnOk P w K mg base CX0 1 T.f_Rule_init T.d_Rule_init ["self", "births", "survival"] (sp_Rule_init K T.C_Rule) := by
  refine T.F_Rule_init.ok sc_Rule_init (fun vs H Q E h => ?_) (fun cdv A outer s H vs Q E hr h => ?_)
  · obtain ⟨_, _, _, _, _, _, _, rfl, _⟩ := h
    rfl
  · obtain ⟨H0, r, lb, ls, dx, nb, ns, rfl, s0, r0, hr0, hb, hs, l1, l2, q⟩ := h
    refine ⟨_, (pss_cons (ps_fld (pv 0) (pe_callTy call_tupL (by rfl) T.z_tuple (by decide +kernel) (pa_cons (pe_callB (cr_sortedSet rfl) (by rfl) T.z_sorted (by decide +kernel) (pa_cons (pe_callTy (cr_setL rfl) (by rfl) T.z_set (by decide +kernel) (pa_cons (pv 1) pa_nil)) pa_nil)) pa_nil)) rfl)
      (pss_one (ps_fld (pv 0) (pe_callTy call_tupL (by rfl) T.z_tuple (by decide +kernel) (pa_cons (pe_callB (cr_sortedSet rfl) (by rfl) T.z_sorted (by decide +kernel) (pa_cons (pe_callTy (cr_setL rfl) (by rfl) T.z_set (by decide +kernel) (pa_cons (pv 2) pa_nil)) pa_nil)) pa_nil)) rfl))), ?_⟩
    refine ⟨_, rfl, lb, nb, rfl, s0.seq hb, Nat.lt_of_le_of_lt (Nat.add_le_add_right l1 1) (by decide), fun p1 c1 n1 hc1 => ?_⟩
    k_invariant "new" (n1, H1, e1, h1)
    refine ⟨_, _, _, rfl, h1, by omega, fun bs p2 pw1 mem1 len1 n2 => ?_⟩
    k_invariant "new" (n2, H2, e2, h2)
    refine ⟨_, _, rfl, lst_of h2, fun p3 n3 => ?_⟩
    k_invariant "new" (n3, H3, e3, h3)
    refine ⟨_, rfl, r, T.C_Rule, dx, [], rfl, by k_subL, T.cl_Rule, T.na_Rule_births, (by show 0 < 1000; decide), ?_⟩
    have s3 : Same H0 H3 := s0.trans (e1.trans (e2.trans e3))
    have r3 : p3 ≠ r := fun e => by
      have : H3 r = some (.ins T.C_Rule dx []) := by k_subL
      rw [e] at h3
      rw [h3] at this
      cases this
    have s4 : Same H0 (upd H3 r (.ins T.C_Rule dx (putF "births" (.ref p3) []))) := mutS s3 r0
    have g4 : upd H3 r (.ins T.C_Rule dx (putF "births" (.ref p3) [])) r = some (.ins T.C_Rule dx (putF "births" (.ref p3) [])) := upd_same
    have g3 : upd H3 r (.ins T.C_Rule dx (putF "births" (.ref p3) [])) p3 = some (.tup (bs.map V.int)) := by rw [upd_ne r3]; exact h3
    generalize upd H3 r (.ins T.C_Rule dx (putF "births" (.ref p3) [])) = H4 at s4 g4 g3
    refine ⟨_, rfl, ls, ns, rfl, s4.seq hs, Nat.lt_of_le_of_lt (Nat.add_le_add_right l2 1) (by decide), fun p5 c2 n5 hc2 => ?_⟩
    k_invariant "new" (n5, H5, e5, h5)
    refine ⟨_, _, _, rfl, h5, by omega, fun ss p6 pw2 mem2 len2 n6 => ?_⟩
    k_invariant "new" (n6, H6, e6, h6)
    refine ⟨_, _, rfl, lst_of h6, fun p7 n7 => ?_⟩
    k_invariant "new" (n7, H7, e7, h7)
    have g8 : H7 r = some (.ins T.C_Rule dx (putF "births" (.ref p3) [])) := by k_subL
    refine ⟨_, rfl, r, T.C_Rule, dx, _, rfl, g8, T.cl_Rule, T.na_Rule_survival, (by show 1 < 1000; decide), ?_⟩
    have r7 : p7 ≠ r := fun e => by
      have : H7 r = some (.ins T.C_Rule dx (putF "births" (.ref p3) [])) := by k_subL
      rw [e] at h7
      rw [h7] at this
      cases this
    have g7 : H7 p3 = some (.tup (bs.map V.int)) := by k_subL
    refine q _ bs ss (mutS (s4.trans (e5.trans (e6.trans e7))) r0) ⟨dx, p3, p7, upd_same, ?_, ?_⟩ ⟨pw1, fun k => (mem1 k).trans (by simp)⟩ ⟨pw2, fun k => (mem2 k).trans (by simp)⟩
    · rw [upd_ne r3]; exact g7
    · rw [upd_ne r7]; exact h7
/-! ### three rows of bits counted -/
def ones3 (l a r : Nat) : Nat := (l ^^^ r) ^^^ a
def twos3 (l a r : Nat) : Nat := (l &&& r) ||| ((l ^^^ r) &&& a)
def sp_sums_of : Sp := fun vs H Q _ => ∃ (l a r : Nat), vs = [.int (l : Int), .int (a : Int), .int (r : Int)] ∧
  ∀ (H' : Hp) (p : Addr), Same H H' → H p = none → H' p = some (.tup [.int (ones3 l a r : Nat), .int (twos3 l a r : Nat)]) → Q (.ref p) H'
theorem ok_sums_of (T : Txt K mg) : FnOk P w K mg base CX0 1 T.f_sums_of T.d_sums_of ["left", "alive", "right"] sp_sums_of := by
  refine T.F_sums_of.ok sc_sums_of (fun vs H Q E h => ?_) (fun cdv A outer s H vs Q E hr h => ?_)
  · obtain ⟨_, _, _, rfl, _⟩ := h
    rfl
  · obtain ⟨l, a, r, rfl, q⟩ := h
    refine ⟨_, (pss_cons (ps_set (i := 3) sc_sums_of.nd rfl (.inl rfl) (pe_op op_xorNN (pv 0) (pv 2)))
      (pss_one (ps_ret (pe_tup (pa_cons (pe_op op_xorNN (pv 3) (pv 1)) (pa_cons (pe_op op_orNN (pe_op op_andNN (pv 0) (pv 2)) (pe_op op_andNN (pv 3) (pv 1))) pa_nil)))))), ?_⟩
    exact ⟨_, rfl, _, rfl, _, _, rfl, rfl, _, rfl, _, rfl, _, _, rfl, rfl, _, rfl, _, rfl, _, _, rfl, rfl, _, rfl, _, rfl, _, _, rfl, rfl, _, _, rfl, rfl, (by k_clsL), fun p n => q _ p (newS n) n upd_same⟩
def one9 (ao ho bo : Nat) : Nat := (ao ^^^ bo) ^^^ ho
def car9 (ao ho bo : Nat) : Nat := (ao &&& bo) ||| ((ao ^^^ bo) &&& ho)
def two9 (ao at' ho ht bo bt : Nat) : Nat := (at' ^^^ bt) ^^^ (ht ^^^ car9 ao ho bo)
def four9 (ao at' ho ht bo bt : Nat) : Nat := ((at' &&& bt) ^^^ (ht &&& car9 ao ho bo)) ||| ((at' ^^^ bt) &&& (ht ^^^ car9 ao ho bo))
def eight9 (ao at' ho ht bo bt : Nat) : Nat := (at' &&& bt) &&& (ht &&& car9 ao ho bo)
def sp_totals_of : Sp := fun vs H Q _ => ∃ (pa ph pb : Addr) (ao at' ho ht bo bt : Nat), vs = [.ref pa, .ref ph, .ref pb] ∧
  H pa = some (.tup [.int (ao : Int), .int (at' : Int)]) ∧ H ph = some (.tup [.int (ho : Int), .int (ht : Int)]) ∧ H pb = some (.tup [.int (bo : Int), .int (bt : Int)]) ∧
  ∀ (H' : Hp) (p : Addr), Same H H' → H p = none → H' p = some (.tup [.int (one9 ao ho bo : Nat), .int (two9 ao at' ho ht bo bt : Nat), .int (four9 ao at' ho ht bo bt : Nat), .int (eight9 ao at' ho ht bo bt : Nat)]) → Q (.ref p) H'
theorem ok_totals_of (T : Txt K mg) : FnOk P w K mg base CX0 1 T.f_totals_of T.d_totals_of ["above", "here", "below"] sp_totals_of := by
  refine T.F_totals_of.ok sc_totals_of (fun vs H Q E h => ?_) (fun cdv A outer s H vs Q E hr h => ?_)
  · obtain ⟨_, _, _, _, _, _, _, _, _, rfl, _⟩ := h
    rfl
  · obtain ⟨pa, ph, pb, ao, at', ho, ht, bo, bt, rfl, ha, hh, hb, q⟩ := h
    refine ⟨_, (pss_cons (ps_asg (pv 0) (pg_tupK (K := K) (n := 2) rfl rfl (pgs_cons (pg_name (i := 3) sc_totals_of.nd rfl (.inl rfl)) (pgs_cons (pg_name (i := 4) sc_totals_of.nd rfl (.inl rfl)) pgs_nil))))
      (pss_cons (ps_asg (pv 1) (pg_tupK (K := K) (n := 2) rfl rfl (pgs_cons (pg_name (i := 5) sc_totals_of.nd rfl (.inl rfl)) (pgs_cons (pg_name (i := 6) sc_totals_of.nd rfl (.inl rfl)) pgs_nil))))
      (pss_cons (ps_asg (pv 2) (pg_tupK (K := K) (n := 2) rfl rfl (pgs_cons (pg_name (i := 7) sc_totals_of.nd rfl (.inl rfl)) (pgs_cons (pg_name (i := 8) sc_totals_of.nd rfl (.inl rfl)) pgs_nil))))
      (pss_cons (ps_set (i := 9) sc_totals_of.nd rfl (.inl rfl) (pe_op op_xorNN (pv 3) (pv 7)))
      (pss_cons (ps_set (i := 10) sc_totals_of.nd rfl (.inl rfl) (pe_op op_orNN (pe_op op_andNN (pv 3) (pv 7)) (pe_op op_andNN (pv 9) (pv 5))))
      (pss_cons (ps_set (i := 11) sc_totals_of.nd rfl (.inl rfl) (pe_op op_xorNN (pv 4) (pv 8)))
      (pss_cons (ps_set (i := 12) sc_totals_of.nd rfl (.inl rfl) (pe_op op_xorNN (pv 6) (pv 10)))
      (pss_cons (ps_set (i := 13) sc_totals_of.nd rfl (.inl rfl) (pe_op op_andNN (pv 4) (pv 8)))
      (pss_cons (ps_set (i := 14) sc_totals_of.nd rfl (.inl rfl) (pe_op op_andNN (pv 6) (pv 10)))
      (pss_cons (ps_set (i := 15) sc_totals_of.nd rfl (.inl rfl) (pe_op op_orNN (pe_op op_xorNN (pv 13) (pv 14)) (pe_op op_andNN (pv 11) (pv 12))))
      (pss_one (ps_ret (pe_tup (pa_cons (pe_op op_xorNN (pv 9) (pv 5)) (pa_cons (pe_op op_xorNN (pv 11) (pv 12)) (pa_cons (pv 15) (pa_cons (pe_op op_andNN (pv 13) (pv 14)) pa_nil))))))))))))))))), ?_⟩
    k_upd
    refine ⟨_, rfl, pa, _, rfl, tup_of ha, rfl, _, _, rfl, _, _, rfl, rfl, ?_⟩
    k_upd
    refine ⟨_, rfl, ph, _, rfl, tup_of hh, rfl, _, _, rfl, _, _, rfl, rfl, ?_⟩
    k_upd
    refine ⟨_, rfl, pb, _, rfl, tup_of hb, rfl, _, _, rfl, _, _, rfl, rfl, ?_⟩
    k_upd
    refine ⟨_, rfl, _, rfl, _, _, rfl, rfl, ?_⟩
    k_upd
    refine ⟨_, rfl, _, rfl, _, _, rfl, rfl, _, rfl, _, rfl, _, _, rfl, rfl, _, _, rfl, rfl, ?_⟩
    k_upd
    refine ⟨_, rfl, _, rfl, _, _, rfl, rfl, ?_⟩
    k_upd
    refine ⟨_, rfl, _, rfl, _, _, rfl, rfl, ?_⟩
    k_upd
    refine ⟨_, rfl, _, rfl, _, _, rfl, rfl, ?_⟩
    k_upd
    refine ⟨_, rfl, _, rfl, _, _, rfl, rfl, ?_⟩
    k_upd
    refine ⟨_, rfl, _, rfl, _, _, rfl, rfl, _, rfl, _, rfl, _, _, rfl, rfl, _, _, rfl, rfl, ?_⟩
    k_upd
    refine ⟨_, rfl, _, rfl, _, _, rfl, rfl, _, rfl, _, rfl, _, _, rfl, rfl, _, rfl, _, rfl, _, rfl, _, _, rfl, rfl, (by k_clsL), fun p n => q _ p (newS n) n upd_same⟩
/-! ### the next strip -/
def near9 (o t f e : Nat) : Nat := ((o ||| t) ||| f) ||| e
def low4 (o t f e : Nat) : Nat → Nat
  | 0 => (near9 o t f e ^^^ o) &&& (near9 o t f e ^^^ t)
  | 1 => o &&& (near9 o t f e ^^^ t)
  | 2 => (near9 o t f e ^^^ o) &&& t
  | _ => o &&& t
def high3 (o t f e : Nat) : Nat → Nat
  | 0 => near9 o t f e ^^^ (f ||| e)
  | 1 => f
  | _ => e
def pick (o t f e n : Nat) : Nat := low4 o t f e (n % 4) &&& high3 o t f e (n / 4)
def picks (o t f e : Nat) (ns : List Nat) : Nat := ns.foldl (fun acc n => acc ||| pick o t f e n) 0
def nextN (alive o t f e : Nat) (bs ss : List Int) : Nat :=
  (picks o t f e (bs.map Int.toNat) &&& (near9 o t f e ^^^ alive)) ||| (picks o t f e (ss.map fun n => n.toNat + 1) &&& alive)
theorem at_low (o t f e : Nat) {k : Nat} (h : k < 4) : atI [V.int (((near9 o t f e ^^^ o) &&& (near9 o t f e ^^^ t) : Nat) : Int), .int ((o &&& (near9 o t f e ^^^ t) : Nat) : Int), .int (((near9 o t f e ^^^ o) &&& t : Nat) : Int), .int ((o &&& t : Nat) : Int)] (k : Int) = some (.int (low4 o t f e k : Nat)) := by
  match k, h with
  | 0, _ => rfl
  | 1, _ => rfl
  | 2, _ => rfl
  | 3, _ => rfl
theorem at_high (o t f e : Nat) {k : Nat} (h : k < 3) : atI [V.int ((near9 o t f e ^^^ (f ||| e) : Nat) : Int), .int (f : Int), .int (e : Int)] (k : Int) = some (.int (high3 o t f e k : Nat)) := by
  match k, h with
  | 0, _ => rfl
  | 1, _ => rfl
  | 2, _ => rfl
theorem and3 (m : Nat) : m &&& 3 = m % 4 := Nat.and_two_pow_sub_one_eq_mod m 2
theorem shr2 (m : Nat) : m >>> 2 = m / 4 := by rw [Nat.shiftRight_eq_div_pow]
def sp_next_strip (C : Addr) : Sp := fun vs H Q _ => ∃ (pt r : Addr) (alive o t f e : Nat) (bs ss : List Int), vs = [.int (alive : Int), .ref pt, .ref r] ∧
  H pt = some (.tup [.int (o : Int), .int (t : Int), .int (f : Int), .int (e : Int)]) ∧ RuleAt C H r bs ss ∧ (∀ b ∈ bs, 0 ≤ b ∧ b ≤ 8) ∧ (∀ b ∈ ss, 0 ≤ b ∧ b ≤ 8) ∧
  ∀ (H' : Hp), Same H H' → Q (.int (nextN alive o t f e bs ss : Nat)) H'
theorem ok_next_strip (T : Txt K mg) : FnOk P w K mg base CX0 1 T.f_next_strip T.d_next_strip ["alive", "totals", "rule"] (sp_next_strip T.C_Rule) := by
  refine T.F_next_strip.ok sc_next_strip (fun vs H Q E h => ?_) (fun cdv A outer s H vs Q E hr h => ?_)
  · obtain ⟨_, _, _, _, _, _, _, _, _, rfl, _⟩ := h
    rfl
  · obtain ⟨pt, r, alive, o, t, f, e, bs, ss, rfl, hp, hR, bb, bss, q⟩ := h
    refine ⟨_, (pss_cons (ps_asg (pv 1) (pg_tupK (K := K) (n := 4) rfl rfl (pgs_cons (pg_name (i := 3) sc_next_strip.nd rfl (.inl rfl)) (pgs_cons (pg_name (i := 4) sc_next_strip.nd rfl (.inl rfl)) (pgs_cons (pg_name (i := 5) sc_next_strip.nd rfl (.inl rfl)) (pgs_cons (pg_name (i := 6) sc_next_strip.nd rfl (.inl rfl)) pgs_nil))))))
      (pss_cons (ps_set (i := 7) sc_next_strip.nd rfl (.inl rfl) (pe_op op_orNN (pe_op op_orNN (pe_op op_orNN (pv 3) (pv 4)) (pv 5)) (pv 6)))
      (pss_cons (ps_set (i := 8) sc_next_strip.nd rfl (.inl rfl) (pe_op op_xorNN (pv 7) (pv 3)))
      (pss_cons (ps_set (i := 9) sc_next_strip.nd rfl (.inl rfl) (pe_op op_xorNN (pv 7) (pv 4)))
      (pss_cons (ps_set (i := 10) sc_next_strip.nd rfl (.inl rfl) (pe_tup (pa_cons (pe_op op_andNN (pv 8) (pv 9)) (pa_cons (pe_op op_andNN (pv 3) (pv 9)) (pa_cons (pe_op op_andNN (pv 8) (pv 4)) (pa_cons (pe_op op_andNN (pv 3) (pv 4)) pa_nil))))))
      (pss_cons (ps_set (i := 11) sc_next_strip.nd rfl (.inl rfl) (pe_tup (pa_cons (pe_op op_xorNN (pv 7) (pe_op op_orNN (pv 5) (pv 6))) (pa_cons (pv 5) (pa_cons (pv 6) pa_nil)))))
      (pss_cons (ps_set (i := 12) sc_next_strip.nd rfl (.inl rfl) pe_int)
      (pss_cons (ps_for PassesOwn.never rfl (pi_tup (pe_fld (pv 2) rfl)) (pg_name (i := 13) sc_next_strip.nd rfl (.inl rfl))
      (pss_one (ps_aug (i := 12) sc_next_strip.nd rfl (.inl rfl) (pe_op op_andNN (pe_ix (ix_tupK (K := K) rfl) (pv 10) (pe_op op_andNN (pv 13) pe_int) (fun _ _ => rfl)) (pe_ix (ix_tupK (K := K) rfl) (pv 11) (pe_op op_shrNN (pv 13) pe_int) (fun _ _ => rfl))) ip_orNN)))
      (pss_cons (ps_set (i := 14) sc_next_strip.nd rfl (.inl rfl) pe_int)
      (pss_cons (ps_for PassesOwn.never rfl (pi_tup (pe_fld (pv 2) rfl)) (pg_name (i := 13) sc_next_strip.nd rfl (.inl rfl))
      (pss_cons (ps_set (i := 15) sc_next_strip.nd rfl (.inl rfl) (pe_op op_add (pv 13) pe_int))
      (pss_one (ps_aug (i := 14) sc_next_strip.nd rfl (.inl rfl) (pe_op op_andNN (pe_ix (ix_tupK (K := K) rfl) (pv 10) (pe_op op_andNN (pv 15) pe_int) (fun _ _ => rfl)) (pe_ix (ix_tupK (K := K) rfl) (pv 11) (pe_op op_shrNN (pv 15) pe_int) (fun _ _ => rfl))) ip_orNN))))
      (pss_one (ps_ret (pe_op op_orNN (pe_op op_andNN (pv 12) (pe_op op_xorNN (pv 7) (pv 0))) (pe_op op_andNN (pv 14) (pv 0))))))))))))))), ?_⟩
    k_upd
    refine ⟨_, rfl, pt, _, rfl, tup_of hp, rfl, _, _, rfl, _, _, rfl, _, _, rfl, _, _, rfl, rfl, ?_⟩
    k_upd
    refine ⟨_, rfl, _, rfl, _, _, rfl, rfl, _, rfl, _, _, rfl, rfl, _, rfl, _, _, rfl, rfl, ?_⟩
    k_upd
    refine ⟨_, rfl, _, rfl, _, _, rfl, rfl, ?_⟩
    k_upd
    refine ⟨_, rfl, _, rfl, _, _, rfl, rfl, ?_⟩
    k_upd
    refine ⟨_, rfl, _, rfl, _, _, rfl, rfl, _, rfl, _, rfl, _, _, rfl, rfl, _, rfl, _, rfl, _, _, rfl, rfl, _, rfl, _, rfl, _, _, rfl, rfl, (by k_clsL), fun pl nl => ?_⟩
    k_upd
    k_invariant "new" (nl, H1, e1, h1)
    refine ⟨_, rfl, _, rfl, _, rfl, _, _, rfl, rfl, _, _, rfl, rfl, _, rfl, _, rfl, (by k_clsL), fun ph nh => ?_⟩
    k_upd
    k_invariant "new" (nh, H2, e2, h2)
    have h1 := e2 _ _ h1
    obtain ⟨dx, tb, ts, r1, r2, r3⟩ := hR.up (e1.trans e2)
    refine ⟨_, rfl, r, _, _, _, _, rfl, r1, T.cl_Rule, T.na_Rule_births, rf_b _ _, tb, rfl, ⟨_, tup_of r2⟩, ?_⟩
    refine for_it (walk_tup (K := K) (a := tb) (xs := bs.map V.int)) (fun i σ H' => H' = H2 ∧ ∃ n : Option V, σ = [some (.int (alive : Int)), some (.ref pt), some (.ref r), some (.int (o : Int)), some (.int (t : Int)), some (.int (f : Int)), some (.int (e : Int)), some (.int (near9 o t f e : Nat)), some (.int ((near9 o t f e ^^^ o : Nat))), some (.int ((near9 o t f e ^^^ t : Nat))), some (.ref pl), some (.ref ph), some (.int (picks o t f e ((bs.take i).map Int.toNat) : Nat)), n, none, none])
      ⟨rfl, _, rfl⟩ (fun i σ H' _ p => by rw [p.1]; exact tup_of r2) ?_ ?_
    · rintro i x σ H' H'' hi ⟨rfl, n, rfl⟩ ⟨rfl, hx⟩
      obtain ⟨z, rfl, hz, mz⟩ := item_ints hx
      have bz := bb z mz
      obtain ⟨m, rfl⟩ := Int.eq_ofNat_of_zero_le bz.1
      have m4 : m % 4 < 4 := Nat.mod_lt _ (by decide)
      have m3 : m / 4 < 3 := by omega
      refine ⟨_, rfl, _, rfl, _, rfl, m, 3, rfl, rfl, pl, _, _, _, rfl, rfl, tup_of h1, (by rw [and3]; exact at_low o t f e m4), ?_⟩
      refine ⟨_, rfl, _, rfl, m, 2, rfl, rfl, ph, _, _, _, rfl, rfl, tup_of h2, (by rw [shr2]; exact at_high o t f e m3), _, _, rfl, rfl, ?_⟩
      refine ⟨_, _, rfl, rfl, ?_⟩
      k_upd
      refine ⟨trivial, some (.int (m : Int)), ?_⟩
      rw [take_next hz, List.map_append]
      unfold picks
      rw [List.foldl_append]
      rfl
    · rintro σ H' ⟨rfl, n, rfl⟩
      rw [List.length_map, List.take_of_length_le (Nat.le_refl _)]
      refine ⟨_, rfl, r, _, _, _, _, rfl, r1, T.cl_Rule, T.na_Rule_survival, rf_s _ _, ts, rfl, ⟨_, tup_of r3⟩, ?_⟩
      refine for_it (walk_tup (K := K) (a := ts) (xs := ss.map V.int)) (fun i σ H'' => H'' = H' ∧ ∃ n n2 : Option V, σ = [some (.int (alive : Int)), some (.ref pt), some (.ref r), some (.int (o : Int)), some (.int (t : Int)), some (.int (f : Int)), some (.int (e : Int)), some (.int (near9 o t f e : Nat)), some (.int ((near9 o t f e ^^^ o : Nat))), some (.int ((near9 o t f e ^^^ t : Nat))), some (.ref pl), some (.ref ph), some (.int (picks o t f e (bs.map Int.toNat) : Nat)), n, some (.int (picks o t f e ((ss.take i).map fun n => n.toNat + 1) : Nat)), n2])
        ⟨rfl, _, _, rfl⟩ (fun i σ H'' _ p => by rw [p.1]; exact tup_of r3) ?_ ?_
      · rintro i x σ H3 H4 hi ⟨rfl, n, n2, rfl⟩ ⟨rfl, hx⟩
        obtain ⟨z, rfl, hz, mz⟩ := item_ints hx
        have bz := bss z mz
        obtain ⟨m, rfl⟩ := Int.eq_ofNat_of_zero_le bz.1
        have m4 : (m + 1) % 4 < 4 := Nat.mod_lt _ (by decide)
        have m3 : (m + 1) / 4 < 3 := by omega
        refine ⟨_, rfl, _, _, rfl, rfl, ?_⟩
        refine ⟨_, rfl, _, rfl, _, rfl, m + 1, 3, rfl, rfl, pl, _, _, _, rfl, rfl, tup_of h1, (by rw [and3]; exact at_low o t f e m4), ?_⟩
        refine ⟨_, rfl, _, rfl, m + 1, 2, rfl, rfl, ph, _, _, _, rfl, rfl, tup_of h2, (by rw [shr2]; exact at_high o t f e m3), _, _, rfl, rfl, ?_⟩
        refine ⟨_, _, rfl, rfl, ?_⟩
        k_upd
        refine ⟨trivial, some (.int (m : Int)), some (.int ((m : Int) + 1)), ?_⟩
        rw [take_next hz, List.map_append]
        unfold picks
        rw [List.foldl_append]
        rfl
      · rintro σ H3 ⟨rfl, n, n2, rfl⟩
        rw [List.length_map, List.take_of_length_le (Nat.le_refl _)]
        exact ⟨_, rfl, _, rfl, _, rfl, _, _, rfl, rfl, _, _, rfl, rfl, _, rfl, _, rfl, _, _, rfl, rfl, _, _, rfl, rfl, q _ (e1.trans e2)⟩
/-! ### blocks as numbers -/
def at32 (j : Nat) : Pr := (((j / 32 : Nat) : Int), ((j % 32 : Nat) : Int))
def cellsN (b : Nat) : List Pr := (bitsB 1024 b).map at32
def popN (b : Nat) : Nat := (bitsB 1024 b).length
def rowN (h : Nat) : Nat := 2 ^ h - 1
def fullN (l : Nat) : Nat := (2 ^ (2 ^ l) - 1) * ((2 ^ (2 ^ l * 32) - 1) / (2 ^ 32 - 1))
def cutN (l b row col : Nat) : Nat := (b >>> (row * 32 + col)) &&& fullN l
def putN (h a b c d : Nat) : Nat := ((a ||| b <<< h) ||| c <<< (h * 32)) ||| d <<< (h * 32 + h)
/-- all cells within the first 2^l rows and columns -/
def Fit (l b : Nat) : Prop := ∀ i, b.testBit i = true → i / 32 < 2 ^ l ∧ i % 32 < 2 ^ l
theorem cellsN_len (b : Nat) : (cellsN b).length = popN b := List.length_map ..
theorem bitsB_len (N n : Nat) : (bitsB N n).length ≤ N := by
  unfold bitsB
  exact Nat.le_trans (List.length_filter_le _ _) (by rw [List.length_range]; exact Nat.le_refl _)
theorem bitsB_asc (N n : Nat) : (bitsB N n).Pairwise (· < ·) := List.Pairwise.filter _ List.pairwise_lt_range
theorem at32_lt {i j : Nat} (h : i < j) : ltP (at32 i) (at32 j) := by
  rw [ltP_iff]
  unfold at32
  dsimp only
  omega
theorem at32_inj {i j : Nat} (h : at32 i = at32 j) : i = j := by
  unfold at32 at h
  injection h with h1 h2
  omega
theorem cellsN_asc (b : Nat) : (cellsN b).Pairwise ltP := List.pairwise_map.mpr ((bitsB_asc 1024 b).imp fun h => at32_lt h)
theorem mem_cellsN {b j : Nat} : at32 j ∈ cellsN b ↔ j < 1024 ∧ b.testBit j = true := by
  unfold cellsN
  rw [List.mem_map]
  constructor
  · rintro ⟨i, m, e⟩
    rw [at32_inj e] at m
    exact mem_bitsB.mp m
  · intro h
    exact ⟨j, mem_bitsB.mpr h, rfl⟩
theorem full_bits : ∀ l : Nat, l < 5 → ∀ i : Nat, i < 1024 → (fullN l).testBit i = (decide (i / 32 < 2 ^ l) && decide (i % 32 < 2 ^ l)) := by
  intro l hl
  have h0 : ∀ i, i < 1024 → (fullN 0).testBit i = (decide (i / 32 < 2 ^ 0) && decide (i % 32 < 2 ^ 0)) := by decide +kernel
  have h1 : ∀ i, i < 1024 → (fullN 1).testBit i = (decide (i / 32 < 2 ^ 1) && decide (i % 32 < 2 ^ 1)) := by decide +kernel
  have h2 : ∀ i, i < 1024 → (fullN 2).testBit i = (decide (i / 32 < 2 ^ 2) && decide (i % 32 < 2 ^ 2)) := by decide +kernel
  have h3 : ∀ i, i < 1024 → (fullN 3).testBit i = (decide (i / 32 < 2 ^ 3) && decide (i % 32 < 2 ^ 3)) := by decide +kernel
  have h4 : ∀ i, i < 1024 → (fullN 4).testBit i = (decide (i / 32 < 2 ^ 4) && decide (i % 32 < 2 ^ 4)) := by decide +kernel
  match l, hl with
  | 0, _ => exact h0
  | 1, _ => exact h1
  | 2, _ => exact h2
  | 3, _ => exact h3
  | 4, _ => exact h4
theorem full_lt {l : Nat} (h : l < 5) : fullN l < 2 ^ 1024 := by
  match l, h with
  | 0, _ => decide +kernel
  | 1, _ => decide +kernel
  | 2, _ => decide +kernel
  | 3, _ => decide +kernel
  | 4, _ => decide +kernel
theorem pow_le16 {l : Nat} (h : l < 5) : 2 ^ l ≤ 16 := by
  match l, h with
  | 0, _ => decide
  | 1, _ => decide
  | 2, _ => decide
  | 3, _ => decide
  | 4, _ => decide
theorem pow_le32 {l : Nat} (h : l < 6) : 2 ^ l ≤ 32 := by
  match l, h with
  | 0, _ => decide
  | 1, _ => decide
  | 2, _ => decide
  | 3, _ => decide
  | 4, _ => decide
  | 5, _ => decide
theorem fit_small {l b : Nat} (hl : l < 6) (h : Fit l b) : ∀ i, b.testBit i = true → i < 1024 := fun i t => by
  have := h i t
  have := pow_le32 hl
  omega
theorem fit_lt {l b : Nat} (hl : l < 6) (h : Fit l b) : b < 2 ^ 1024 := by
  refine Nat.lt_pow_two_of_testBit b fun i hi => ?_
  cases e : b.testBit i with
  | false => rfl
  | true =>
    have := fit_small hl h i e
    omega
theorem cut_bit {l b row col i : Nat} (hl : l < 5) : (cutN l b row col).testBit i = (b.testBit (row * 32 + col + i) && (decide (i / 32 < 2 ^ l) && decide (i % 32 < 2 ^ l))) := by
  unfold cutN
  rw [Nat.testBit_and, Nat.testBit_shiftRight]
  by_cases h : i < 1024
  · rw [full_bits l hl i h]
  · have z : (fullN l).testBit i = false := Nat.testBit_lt_two_pow (Nat.lt_of_lt_of_le (full_lt hl) (Nat.pow_le_pow_right (by decide) (by omega)))
    have := pow_le16 hl
    have z2 : decide (i / 32 < 2 ^ l) = false := decide_eq_false (by omega)
    rw [z, z2]
    simp
theorem cut_fit {l b row col : Nat} (hl : l < 5) : Fit l (cutN l b row col) := fun i h => by
  rw [cut_bit hl] at h
  simp only [Bool.and_eq_true, decide_eq_true_eq] at h
  exact h.2
theorem put_bit {h a b c d i : Nat} : (putN h a b c d).testBit i = (((a.testBit i || (decide (h ≤ i) && b.testBit (i - h))) || (decide (h * 32 ≤ i) && c.testBit (i - h * 32))) || (decide (h * 32 + h ≤ i) && d.testBit (i - (h * 32 + h)))) := by
  unfold putN
  rw [Nat.testBit_or, Nat.testBit_or, Nat.testBit_or, Nat.testBit_shiftLeft, Nat.testBit_shiftLeft, Nat.testBit_shiftLeft]
theorem put_cut {l b : Nat} (hl : l < 5) (hf : Fit (l + 1) b) : putN (2 ^ l) (cutN l b 0 0) (cutN l b 0 (2 ^ l)) (cutN l b (2 ^ l) 0) (cutN l b (2 ^ l) (2 ^ l)) = b := by
  refine Nat.eq_of_testBit_eq fun i => ?_
  rw [put_bit, cut_bit hl, cut_bit hl, cut_bit hl, cut_bit hl]
  have h16 := pow_le16 hl
  have p2 : 2 ^ (l + 1) = 2 * 2 ^ l := by rw [Nat.pow_succ, Nat.mul_comm]
  have hf := hf i
  rw [p2] at hf
  generalize 2 ^ l = h at *
  rw [Bool.eq_iff_iff]
  simp only [Bool.or_eq_true, Bool.and_eq_true, decide_eq_true_eq]
  constructor
  · rintro (((q | q) | q) | q)
    · rw [show 0 * 32 + 0 + i = i by omega] at q
      exact q.1
    · rw [show 0 * 32 + h + (i - h) = i by omega] at q
      exact q.2.1
    · rw [show h * 32 + 0 + (i - h * 32) = i by omega] at q
      exact q.2.1
    · rw [show h * 32 + h + (i - (h * 32 + h)) = i by omega] at q
      exact q.2.1
  · intro t
    have f := hf t
    by_cases r : i / 32 < h
    · by_cases c : i % 32 < h
      · refine .inl (.inl (.inl ⟨?_, r, c⟩))
        rw [show 0 * 32 + 0 + i = i by omega]
        exact t
      · refine .inl (.inl (.inr ⟨by omega, ?_, by omega, by omega⟩))
        rw [show 0 * 32 + h + (i - h) = i by omega]
        exact t
    · by_cases c : i % 32 < h
      · refine .inl (.inr ⟨by omega, ?_, by omega, by omega⟩)
        rw [show h * 32 + 0 + (i - h * 32) = i by omega]
        exact t
      · refine .inr ⟨by omega, ?_, by omega, by omega⟩
        rw [show h * 32 + h + (i - (h * 32 + h)) = i by omega]
        exact t
/-- the block of a list of cells -/
def bitOf (x : Pr) : Nat := x.1.toNat * 32 + x.2.toNat
def blockOf (ps : List Pr) : Nat := ps.foldl (fun acc x => acc ||| 1 <<< bitOf x) 0
def In32 (l : Nat) (ps : List Pr) : Prop := ∀ x ∈ ps, 0 ≤ x.1 ∧ x.1 < (2 ^ l : Nat) ∧ 0 ≤ x.2 ∧ x.2 < (2 ^ l : Nat)
theorem foldl_bits (ps : List Pr) : ∀ (a i : Nat), (ps.foldl (fun acc x => acc ||| 1 <<< bitOf x) a).testBit i = true ↔ a.testBit i = true ∨ ∃ x ∈ ps, bitOf x = i := by
  induction ps with
  | nil => intro a i; simp
  | cons x ps ih =>
    intro a i
    rw [List.foldl_cons, ih, Nat.testBit_or, Nat.one_shiftLeft, Nat.testBit_two_pow, Bool.or_eq_true, decide_eq_true_eq]
    constructor
    · rintro ((h | h) | ⟨y, m, e⟩)
      · exact .inl h
      · exact .inr ⟨x, List.mem_cons_self, h⟩
      · exact .inr ⟨y, List.mem_cons_of_mem _ m, e⟩
    · rintro (h | ⟨y, m, e⟩)
      · exact .inl (.inl h)
      · rcases List.mem_cons.mp m with z | m
        · rw [z] at e
          exact .inl (.inr e)
        · exact .inr ⟨y, m, e⟩
theorem blockOf_bit {ps : List Pr} {i : Nat} : (blockOf ps).testBit i = true ↔ ∃ x ∈ ps, bitOf x = i := by
  unfold blockOf
  rw [foldl_bits]
  simp
theorem bitOf_at {x : Pr} (h1 : 0 ≤ x.1) (h3 : 0 ≤ x.2) (h4 : x.2 < 32) : at32 (bitOf x) = x := by
  obtain ⟨a, b⟩ := x
  unfold at32 bitOf
  dsimp only at *
  refine Prod.ext ?_ ?_ <;> dsimp only <;> omega
theorem blockOf_fit {l : Nat} {ps : List Pr} (hl : l < 6) (h : In32 l ps) : Fit l (blockOf ps) := fun i t => by
  obtain ⟨x, m, e⟩ := blockOf_bit.mp t
  obtain ⟨h1, h2, h3, h4⟩ := h x m
  have := pow_le32 hl
  subst e
  unfold bitOf
  generalize 2 ^ l = p at *
  omega
theorem blockOf_cells {l : Nat} {ps : List Pr} (hl : l < 6) (h : In32 l ps) (asc : ps.Pairwise ltP) : cellsN (blockOf ps) = ps := by
  refine ascP_eq (cellsN_asc _) asc fun x => ?_
  constructor
  · intro m
    obtain ⟨j, mj, e⟩ := List.mem_map.mp m
    obtain ⟨y, my, ey⟩ := blockOf_bit.mp (mem_bitsB.mp mj).2
    obtain ⟨h1, h2, h3, h4⟩ := h y my
    have := pow_le32 hl
    rw [← ey, bitOf_at h1 h3 (by omega)] at e
    rw [← e]
    exact my
  · intro m
    obtain ⟨h1, h2, h3, h4⟩ := h x m
    have := pow_le32 hl
    have e := bitOf_at h1 h3 (by omega)
    rw [← e]
    have t : (blockOf ps).testBit (bitOf x) = true := blockOf_bit.mpr ⟨x, m, rfl⟩
    exact mem_cellsN.mpr ⟨fit_small hl (blockOf_fit hl h) _ t, t⟩
theorem blockOf_congr {ps qs : List Pr} (h : ∀ x, x ∈ ps ↔ x ∈ qs) : blockOf ps = blockOf qs := by
  refine Nat.eq_of_testBit_eq fun i => ?_
  rw [Bool.eq_iff_iff, blockOf_bit, blockOf_bit]
  exact ⟨fun ⟨x, m, e⟩ => ⟨x, (h x).mp m, e⟩, fun ⟨x, m, e⟩ => ⟨x, (h x).mpr m, e⟩⟩
theorem cells_block {b : Nat} (h : b < 2 ^ 1024) : blockOf (cellsN b) = b := by
  refine Nat.eq_of_testBit_eq fun i => ?_
  rw [Bool.eq_iff_iff, blockOf_bit]
  constructor
  · rintro ⟨x, m, e⟩
    obtain ⟨j, mj, ej⟩ := List.mem_map.mp m
    have : bitOf x = j := by
      rw [← ej]
      unfold bitOf at32
      dsimp only
      omega
    rw [← e, this]
    exact (mem_bitsB.mp mj).2
  · intro t
    have li : i < 1024 := by
      refine Nat.lt_of_not_le fun g => ?_
      rw [Nat.testBit_lt_two_pow (Nat.lt_of_lt_of_le h (Nat.pow_le_pow_right (by decide) g))] at t
      cases t
    refine ⟨at32 i, mem_cellsN.mpr ⟨li, t⟩, ?_⟩
    unfold bitOf at32
    dsimp only
    omega
theorem pop_zero {l b : Nat} (hl : l < 6) (h : Fit l b) : popN b = 0 ↔ b = 0 := by
  constructor
  · intro e
    rw [← cells_block (fit_lt hl h)]
    have : cellsN b = [] := by
      unfold cellsN
      rw [List.map_eq_nil_iff]
      exact List.eq_nil_of_length_eq_zero e
    rw [this]
    rfl
  · rintro rfl
    unfold popN
    rw [bits_zero]
    rfl
end
end My
namespace My
open PySem PySem.Spec PyProof.Rows L2 Vx
open TL
local macro_rules | `(tactic| k_invariant "new" ($n, $H:ident, $e:ident, $h:ident)) => `(tactic| (generalize hE : upd _ _ _ = $H; obtain ⟨$e:ident, $h:ident⟩ := gen_e hE $n; clear hE))
local macro_rules | `(tactic| k_places) => `(tactic| first
  | assumption
  | exact lst_of (by assumption)
  | exact tup_of (by assumption)
  | (refine getS (by assumption) ?_; k_places)
  | (refine Same.seq (by assumption) ?_; k_places)
  | (refine tupS (by assumption) ?_; k_places)
  | (refine lst_of ?_; k_places)
  | (refine tup_of ?_; k_places))
local macro_rules | `(tactic| k_subL) => `(tactic| first
  | k_places
  | solve_by_elim (maxDepth := 10) [getS, lst_of, tup_of, Same.seq, tupS])
local macro_rules | `(tactic| k_offL) => `(tactic| first
  | (show (0 : Int) < _; first | omega | decide)
  | (refine ⟨?_, ?_⟩ <;> first | omega | decide)
  | exact .inr ⟨by decide, by decide⟩
  | exact .inl ⟨by decide, by decide⟩
  | exact .inl ⟨by omega, by omega⟩
  | omega)
local macro_rules | `(tactic| k_clsL) => `(tactic| exact Nat.le_of_ble_eq_true rfl)
local macro_rules | `(tactic| k_upd) => `(tactic| simp only [L2.start, List.map_cons, List.map_nil, List.length_cons, List.length_nil, List.replicate_succ, List.replicate_zero, List.cons_append, List.nil_append, List.set_cons_zero, List.set_cons_succ])
section
variable {P : Program} {w : World} {K : PySem.W.Frag} {mg : Str → Option Value} {base : Heap}
/-! ### what the bits say -/
def nb (L : Int → Int → Bool) (r c : Int) : Nat :=
  (L (r - 1) (c - 1)).toNat + (L (r - 1) c).toNat + (L (r - 1) (c + 1)).toNat + (L r (c - 1)).toNat + (L r (c + 1)).toNat + (L (r + 1) (c - 1)).toNat + (L (r + 1) c).toNat + (L (r + 1) (c + 1)).toNat
def stepL (bs ss : List Int) (L : Int → Int → Bool) (r c : Int) : Bool := if L r c = true then decide ((nb L r c : Int) ∈ ss) else decide ((nb L r c : Int) ∈ bs)
def genL (bs ss : List Int) (L : Int → Int → Bool) : Nat → Int → Int → Bool
  | 0 => L
  | n + 1 => stepL bs ss (genL bs ss L n)
def oneB (l a r : Bool) : Bool := (l ^^ r) ^^ a
def twoB (l a r : Bool) : Bool := (l && r) || ((l ^^ r) && a)
def carB (ao ho bo : Bool) : Bool := (ao && bo) || ((ao ^^ bo) && ho)
def sum9 (a b c d e f g h i : Bool) : Nat := a.toNat + b.toNat + c.toNat + d.toNat + e.toNat + f.toNat + g.toNat + h.toNat + i.toNat
theorem bits9 : ∀ a b c d e f g h i : Bool,
    ((oneB a b c ^^ oneB g h i) ^^ oneB d e f) = decide (sum9 a b c d e f g h i % 2 = 1) ∧
    ((twoB a b c ^^ twoB g h i) ^^ (twoB d e f ^^ carB (oneB a b c) (oneB d e f) (oneB g h i))) = decide (sum9 a b c d e f g h i / 2 % 2 = 1) ∧
    (((twoB a b c && twoB g h i) ^^ (twoB d e f && carB (oneB a b c) (oneB d e f) (oneB g h i))) || ((twoB a b c ^^ twoB g h i) && (twoB d e f ^^ carB (oneB a b c) (oneB d e f) (oneB g h i)))) = decide (sum9 a b c d e f g h i / 4 % 2 = 1) ∧
    ((twoB a b c && twoB g h i) && (twoB d e f && carB (oneB a b c) (oneB d e f) (oneB g h i))) = decide (sum9 a b c d e f g h i / 8 % 2 = 1) ∧ sum9 a b c d e f g h i < 10 := by
  decide +kernel
def lowB (o t n : Bool) : Nat → Bool
  | 0 => (n ^^ o) && (n ^^ t)
  | 1 => o && (n ^^ t)
  | 2 => (n ^^ o) && t
  | _ => o && t
def highB (f e n : Bool) : Nat → Bool
  | 0 => n ^^ (f || e)
  | 1 => f
  | _ => e
theorem pickB : ∀ s < 10, ∀ n < 10, 1 ≤ n → (lowB (decide (s % 2 = 1)) (decide (s / 2 % 2 = 1)) (((decide (s % 2 = 1) || decide (s / 2 % 2 = 1)) || decide (s / 4 % 2 = 1)) || decide (s / 8 % 2 = 1)) (n % 4) &&
    highB (decide (s / 4 % 2 = 1)) (decide (s / 8 % 2 = 1)) (((decide (s % 2 = 1) || decide (s / 2 % 2 = 1)) || decide (s / 4 % 2 = 1)) || decide (s / 8 % 2 = 1)) (n / 4)) = decide (s = n) := by
  decide +kernel
theorem nearB : ∀ s < 10, (((decide (s % 2 = 1) || decide (s / 2 % 2 = 1)) || decide (s / 4 % 2 = 1)) || decide (s / 8 % 2 = 1)) = decide (s ≠ 0) := by decide +kernel
theorem low4_bit (o t f e j : Nat) : ∀ k, (low4 o t f e k).testBit j = lowB (o.testBit j) (t.testBit j) ((near9 o t f e).testBit j) k
  | 0 => by show ((near9 o t f e ^^^ o) &&& (near9 o t f e ^^^ t)).testBit j = _; rw [Nat.testBit_and, Nat.testBit_xor, Nat.testBit_xor]; rfl
  | 1 => by show (o &&& (near9 o t f e ^^^ t)).testBit j = _; rw [Nat.testBit_and, Nat.testBit_xor]; rfl
  | 2 => by show ((near9 o t f e ^^^ o) &&& t).testBit j = _; rw [Nat.testBit_and, Nat.testBit_xor]; rfl
  | _ + 3 => by show (o &&& t).testBit j = _; rw [Nat.testBit_and]; rfl
theorem high3_bit (o t f e j : Nat) : ∀ k, (high3 o t f e k).testBit j = highB (f.testBit j) (e.testBit j) ((near9 o t f e).testBit j) k
  | 0 => by show (near9 o t f e ^^^ (f ||| e)).testBit j = _; rw [Nat.testBit_xor, Nat.testBit_or]; rfl
  | 1 => rfl
  | _ + 2 => rfl
theorem picks_bit (o t f e j : Nat) (ns : List Nat) : (picks o t f e ns).testBit j = ns.any fun n => (pick o t f e n).testBit j := by
  have go : ∀ (ns : List Nat) (a : Nat), (ns.foldl (fun acc n => acc ||| pick o t f e n) a).testBit j = (a.testBit j || ns.any fun n => (pick o t f e n).testBit j) := fun ns => by
    induction ns with
    | nil => exact fun a => by simp
    | cons n ns ih =>
      intro a
      rw [List.foldl_cons, ih, Nat.testBit_or, List.any_cons, Bool.or_assoc]
  unfold picks
  rw [go, Nat.zero_testBit, Bool.false_or]
/-- the bit of the next strip, by the total s of the nine -/
theorem nextN_bit {alive o t f e j s : Nat} {bs ss : List Int} (hs : s < 10) (h1 : o.testBit j = decide (s % 2 = 1)) (h2 : t.testBit j = decide (s / 2 % 2 = 1)) (h4 : f.testBit j = decide (s / 4 % 2 = 1)) (h8 : e.testBit j = decide (s / 8 % 2 = 1))
    (hb : ∀ b ∈ bs, 1 ≤ b ∧ b ≤ 8) (hss : ∀ b ∈ ss, 0 ≤ b ∧ b ≤ 8) (ha : alive.testBit j = true → 1 ≤ s) :
    (nextN alive o t f e bs ss).testBit j = if alive.testBit j = true then decide (((s : Int) - 1) ∈ ss) else decide ((s : Int) ∈ bs) := by
  have hn : (near9 o t f e).testBit j = decide (s ≠ 0) := by
    unfold near9
    rw [Nat.testBit_or, Nat.testBit_or, Nat.testBit_or, h1, h2, h4, h8]
    exact nearB s hs
  have hp : ∀ n, 1 ≤ n → n < 10 → (pick o t f e n).testBit j = decide (s = n) := fun n n1 n2 => by
    unfold pick
    rw [Nat.testBit_and, low4_bit, high3_bit, hn, h1, h2, h4, h8, ← nearB s hs]
    exact pickB s hs n n2 n1
  have pb : (picks o t f e (bs.map Int.toNat)).testBit j = decide ((s : Int) ∈ bs) := by
    rw [picks_bit, Bool.eq_iff_iff, decide_eq_true_iff, List.any_eq_true]
    constructor
    · rintro ⟨n, m, h⟩
      obtain ⟨b, mb, rfl⟩ := List.mem_map.mp m
      have := hb b mb
      rw [hp _ (by omega) (by omega)] at h
      have h := of_decide_eq_true h
      rw [show (s : Int) = b by omega]
      exact mb
    · intro m
      have := hb _ m
      refine ⟨s, List.mem_map.mpr ⟨_, m, by omega⟩, ?_⟩
      rw [hp _ (by omega) hs]
      exact decide_eq_true rfl
  have pss : (picks o t f e (ss.map fun n => n.toNat + 1)).testBit j = decide (((s : Int) - 1) ∈ ss) := by
    rw [picks_bit, Bool.eq_iff_iff, decide_eq_true_iff, List.any_eq_true]
    constructor
    · rintro ⟨n, m, h⟩
      obtain ⟨b, mb, rfl⟩ := List.mem_map.mp m
      have := hss b mb
      rw [hp _ (by omega) (by omega)] at h
      have h := of_decide_eq_true h
      rw [show (s : Int) - 1 = b by omega]
      exact mb
    · intro m
      have := hss _ m
      refine ⟨s, List.mem_map.mpr ⟨_, m, by omega⟩, ?_⟩
      rw [hp _ (by omega) hs]
      exact decide_eq_true rfl
  unfold nextN
  rw [Nat.testBit_or, Nat.testBit_and, Nat.testBit_and, Nat.testBit_xor, pb, pss, hn]
  cases hal : alive.testBit j with
  | true =>
    have := ha hal
    rw [decide_eq_true (show s ≠ 0 by omega), if_pos rfl]
    simp
  | false =>
    rw [if_neg (by decide)]
    by_cases z : s = 0
    · have nm : ¬ (s : Int) ∈ bs := fun m => by
        have := hb _ m
        omega
      rw [decide_eq_false nm]
      simp
    · rw [decide_eq_true z]
      simp
theorem nb_sumB {L : Int → Int → Bool} {r c : Int} : sum9 (L (r - 1) (c - 1)) (L (r - 1) c) (L (r - 1) (c + 1)) (L r (c - 1)) (L r c) (L r (c + 1)) (L (r + 1) (c - 1)) (L (r + 1) c) (L (r + 1) (c + 1)) = nb L r c + (L r c).toNat := by
  unfold sum9 nb
  omega
/-! ### the next generation of a block, right within its edges -/
def nextBlk (bs ss : List Int) (b : Nat) : Nat :=
  nextN b (one9 (ones3 (b <<< 1) b (b >>> 1) <<< 32) (ones3 (b <<< 1) b (b >>> 1)) (ones3 (b <<< 1) b (b >>> 1) >>> 32))
    (two9 (ones3 (b <<< 1) b (b >>> 1) <<< 32) (twos3 (b <<< 1) b (b >>> 1) <<< 32) (ones3 (b <<< 1) b (b >>> 1)) (twos3 (b <<< 1) b (b >>> 1)) (ones3 (b <<< 1) b (b >>> 1) >>> 32) (twos3 (b <<< 1) b (b >>> 1) >>> 32))
    (four9 (ones3 (b <<< 1) b (b >>> 1) <<< 32) (twos3 (b <<< 1) b (b >>> 1) <<< 32) (ones3 (b <<< 1) b (b >>> 1)) (twos3 (b <<< 1) b (b >>> 1)) (ones3 (b <<< 1) b (b >>> 1) >>> 32) (twos3 (b <<< 1) b (b >>> 1) >>> 32))
    (eight9 (ones3 (b <<< 1) b (b >>> 1) <<< 32) (twos3 (b <<< 1) b (b >>> 1) <<< 32) (ones3 (b <<< 1) b (b >>> 1)) (twos3 (b <<< 1) b (b >>> 1)) (ones3 (b <<< 1) b (b >>> 1) >>> 32) (twos3 (b <<< 1) b (b >>> 1) >>> 32)) bs ss
theorem ones_at {b j : Nat} (h : 1 ≤ j) : (ones3 (b <<< 1) b (b >>> 1)).testBit j = oneB (b.testBit (j - 1)) (b.testBit j) (b.testBit (j + 1)) ∧ (twos3 (b <<< 1) b (b >>> 1)).testBit j = twoB (b.testBit (j - 1)) (b.testBit j) (b.testBit (j + 1)) := by
  have h2 : (b <<< 1).testBit j = b.testBit (j - 1) := by
    rw [Nat.testBit_shiftLeft, decide_eq_true (show j ≥ 1 by omega), Bool.true_and]
  have h3 : (b >>> 1).testBit j = b.testBit (j + 1) := by rw [Nat.testBit_shiftRight, Nat.add_comm]
  unfold ones3 twos3 oneB twoB
  simp only [Nat.testBit_xor, Nat.testBit_or, Nat.testBit_and, h2, h3]
  exact ⟨trivial, trivial⟩
/-- within rows and columns from lo to hi the block shows L -/
def Cor (b : Nat) (L : Int → Int → Bool) (lo hi : Nat) : Prop := ∀ r c : Nat, lo ≤ r → r < hi → lo ≤ c → c < hi → b.testBit (r * 32 + c) = L r c
theorem blk_bit {bs ss : List Int} (hb : ∀ b ∈ bs, 1 ≤ b ∧ b ≤ 8) (hss : ∀ b ∈ ss, 0 ≤ b ∧ b ≤ 8) {b i : Nat} {L : Int → Int → Bool} {r c : Int} (i33 : 33 ≤ i) (p1 : b.testBit (i - 32 - 1) = L (r - 1) (c - 1)) (p2 : b.testBit (i - 32) = L (r - 1) c) (p3 : b.testBit (i - 32 + 1) = L (r - 1) (c + 1)) (p4 : b.testBit (i - 1) = L r (c - 1)) (p5 : b.testBit (i) = L r c) (p6 : b.testBit (i + 1) = L r (c + 1)) (p7 : b.testBit (i + 32 - 1) = L (r + 1) (c - 1)) (p8 : b.testBit (i + 32) = L (r + 1) c) (p9 : b.testBit (i + 32 + 1) = L (r + 1) (c + 1)) : (nextBlk bs ss b).testBit i = stepL bs ss L r c := by
  obtain ⟨a1, a2⟩ := ones_at (b := b) (j := i - 32) (by omega)
  obtain ⟨b1, b2⟩ := ones_at (b := b) (j := i) (by omega)
  obtain ⟨c1', c2⟩ := ones_at (b := b) (j := i + 32) (by omega)
  rw [p1, p2, p3] at a1 a2
  rw [p4, p5, p6] at b1 b2
  rw [p7, p8, p9] at c1' c2
  have up : ∀ n : Nat, (n <<< 32).testBit i = n.testBit (i - 32) := fun n => by
    rw [Nat.testBit_shiftLeft, decide_eq_true (show i ≥ 32 by omega), Bool.true_and]
  have dn : ∀ n : Nat, (n >>> 32).testBit i = n.testBit (i + 32) := fun n => by rw [Nat.testBit_shiftRight, Nat.add_comm]
  have q := bits9 (L (r - 1) (c - 1)) (L (r - 1) c) (L (r - 1) (c + 1)) (L r (c - 1)) (L r c) (L r (c + 1)) (L (r + 1) (c - 1)) (L (r + 1) c) (L (r + 1) (c + 1))
  rw [nb_sumB] at q
  obtain ⟨q1, q2, q4, q8, ql⟩ := q
  unfold nextBlk
  rw [nextN_bit ql ?_ ?_ ?_ ?_ hb hss ?_, p5]
  · unfold stepL
    by_cases z : L r c = true
    · rw [if_pos z, if_pos z, z]
      rw [show ((nb L r c + true.toNat : Nat) : Int) - 1 = (nb L r c : Int) by show ((nb L r c + 1 : Nat) : Int) - 1 = _; omega]
    · have z' : L r c = false := by simpa using z
      rw [if_neg z, if_neg z, z']
      rfl
  · rw [← q1]
    unfold one9
    simp only [Nat.testBit_xor, up, dn, a1, b1, c1']
  · rw [← q2]
    unfold two9 car9 carB
    simp only [Nat.testBit_xor, Nat.testBit_or, Nat.testBit_and, up, dn, a1, b1, c1', a2, b2, c2]
  · rw [← q4]
    unfold four9 car9 carB
    simp only [Nat.testBit_xor, Nat.testBit_or, Nat.testBit_and, up, dn, a1, b1, c1', a2, b2, c2]
  · rw [← q8]
    unfold eight9 car9 carB
    simp only [Nat.testBit_xor, Nat.testBit_or, Nat.testBit_and, up, dn, a1, b1, c1', a2, b2, c2]
  · intro z
    rw [p5] at z
    rw [z]
    show 1 ≤ _ + 1
    omega
theorem Cor.step {bs ss : List Int} (hb : ∀ b ∈ bs, 1 ≤ b ∧ b ≤ 8) (hss : ∀ b ∈ ss, 0 ≤ b ∧ b ≤ 8) {b : Nat} {L : Int → Int → Bool} {lo hi : Nat} (h32 : hi ≤ 32) (h : Cor b L lo hi) : Cor (nextBlk bs ss b) (stepL bs ss L) (lo + 1) (hi - 1) := by
  intro r c r0 r1 c0 c1
  obtain ⟨i, ei⟩ : ∃ i, i = r * 32 + c := ⟨_, rfl⟩
  rw [← ei]
  have at' : ∀ (x y : Nat), lo ≤ x → x < hi → lo ≤ y → y < hi → ∀ k : Nat, k = x * 32 + y → b.testBit k = L x y := fun x y a1 a2 a3 a4 k ek => by rw [ek]; exact h x y a1 a2 a3 a4
  have rm : ((r - 1 : Nat) : Int) = (r : Int) - 1 := by omega
  have rp : ((r + 1 : Nat) : Int) = (r : Int) + 1 := by omega
  have cm : ((c - 1 : Nat) : Int) = (c : Int) - 1 := by omega
  have cp : ((c + 1 : Nat) : Int) = (c : Int) + 1 := by omega
  have p1 : b.testBit (i - 32 - 1) = L ((r : Int) - 1) ((c : Int) - 1) := by
    rw [← rm, ← cm]
    exact at' _ _ (by omega) (by omega) (by omega) (by omega) _ (by omega)
  have p2 : b.testBit (i - 32) = L ((r : Int) - 1) c := by
    rw [← rm]
    exact at' _ _ (by omega) (by omega) (by omega) (by omega) _ (by omega)
  have p3 : b.testBit (i - 32 + 1) = L ((r : Int) - 1) ((c : Int) + 1) := by
    rw [← rm, ← cp]
    exact at' _ _ (by omega) (by omega) (by omega) (by omega) _ (by omega)
  have p4 : b.testBit (i - 1) = L r ((c : Int) - 1) := by
    rw [← cm]
    exact at' _ _ (by omega) (by omega) (by omega) (by omega) _ (by omega)
  have p5 : b.testBit i = L r c := at' _ _ (by omega) (by omega) (by omega) (by omega) _ (by omega)
  have p6 : b.testBit (i + 1) = L r ((c : Int) + 1) := by
    rw [← cp]
    exact at' _ _ (by omega) (by omega) (by omega) (by omega) _ (by omega)
  have p7 : b.testBit (i + 32 - 1) = L ((r : Int) + 1) ((c : Int) - 1) := by
    rw [← rp, ← cm]
    exact at' _ _ (by omega) (by omega) (by omega) (by omega) _ (by omega)
  have p8 : b.testBit (i + 32) = L ((r : Int) + 1) c := by
    rw [← rp]
    exact at' _ _ (by omega) (by omega) (by omega) (by omega) _ (by omega)
  have p9 : b.testBit (i + 32 + 1) = L ((r : Int) + 1) ((c : Int) + 1) := by
    rw [← rp, ← cp]
    exact at' _ _ (by omega) (by omega) (by omega) (by omega) _ (by omega)
  exact blk_bit hb hss (by omega) p1 p2 p3 p4 p5 p6 p7 p8 p9
theorem nextBlk_lt {bs ss : List Int} (hb : ∀ b ∈ bs, 1 ≤ b ∧ b ≤ 8) (hss : ∀ b ∈ ss, 0 ≤ b ∧ b ≤ 8) {b N : Nat} (h : b < 2 ^ N) : nextBlk bs ss b < 2 ^ (N + 34) := by
  refine Nat.lt_pow_two_of_testBit _ fun i hi => ?_
  have z : ∀ k, N ≤ k → b.testBit k = false := fun k hk => Nat.testBit_lt_two_pow (Nat.lt_of_lt_of_le h (Nat.pow_le_pow_right (by decide) hk))
  rw [blk_bit hb hss (L := fun _ _ => false) (r := 0) (c := 0) (by omega) (z _ (by omega)) (z _ (by omega)) (z _ (by omega)) (z _ (by omega)) (z _ (by omega)) (z _ (by omega)) (z _ (by omega)) (z _ (by omega)) (z _ (by omega))]
  unfold stepL
  rw [if_neg (by decide)]
  refine decide_eq_false fun m => ?_
  have := hb _ m
  unfold nb at this
  simp at this
def iterBlk (bs ss : List Int) : Nat → Nat → Nat
  | 0, b => b
  | n + 1, b => nextBlk bs ss (iterBlk bs ss n b)
theorem Cor.iter {bs ss : List Int} (hb : ∀ b ∈ bs, 1 ≤ b ∧ b ≤ 8) (hss : ∀ b ∈ ss, 0 ≤ b ∧ b ≤ 8) {b : Nat} {L : Int → Int → Bool} {hi : Nat} (h32 : hi ≤ 32) (h : Cor b L 0 hi) : ∀ n, Cor (iterBlk bs ss n b) (genL bs ss L n) n (hi - n)
  | 0 => h
  | n + 1 => by
    have := (Cor.iter hb hss h32 h n).step hb hss (by omega)
    rw [show hi - (n + 1) = hi - n - 1 by omega]
    exact this
/-- the middle of a block after n generations -/
theorem centre_cor {bs ss : List Int} (hb : ∀ b ∈ bs, 1 ≤ b ∧ b ≤ 8) (hss : ∀ b ∈ ss, 0 ≤ b ∧ b ≤ 8) {b l n : Nat} {L : Int → Int → Bool} (hl : l < 4) (hn : n ≤ 2 ^ l) (h : Cor b L 0 (2 ^ (l + 2))) {r c : Nat} (hr : r < 2 ^ (l + 1)) (hc : c < 2 ^ (l + 1)) :
    (cutN (l + 1) (iterBlk bs ss n b) (2 ^ l) (2 ^ l)).testBit (r * 32 + c) = genL bs ss L n ((2 ^ l + r : Nat) : Int) ((2 ^ l + c : Nat) : Int) := by
  have h32 := pow_le32 (show l + 2 < 6 by omega)
  have p1 : 2 ^ (l + 1) = 2 * 2 ^ l := by rw [Nat.pow_succ, Nat.mul_comm]
  have p2 : 2 ^ (l + 2) = 4 * 2 ^ l := by rw [Nat.pow_add, Nat.mul_comm]
  have q := Cor.iter hb hss h32 h n
  rw [cut_bit (by omega)]
  rw [p1] at hr hc ⊢
  rw [p2] at q h32
  clear p1 p2 h
  generalize 2 ^ l = p at *
  have e1 : (r * 32 + c) / 32 = r := by omega
  have e2 : (r * 32 + c) % 32 = c := by omega
  rw [e1, e2, decide_eq_true hr, decide_eq_true hc, Bool.and_true, Bool.and_true, show p * 32 + p + (r * 32 + c) = (p + r) * 32 + (p + c) by omega]
  exact q _ _ (by omega) (by omega) (by omega) (by omega)
def memL (ps : List Pr) (r c : Int) : Bool := decide ((r, c) ∈ ps)
theorem stepL_near {bs ss : List Int} {L : Int → Int → Bool} {r c : Int} (hb : ∀ b ∈ bs, 1 ≤ b ∧ b ≤ 8) (h : stepL bs ss L r c = true) : ∃ r' c', r - 1 ≤ r' ∧ r' ≤ r + 1 ∧ c - 1 ≤ c' ∧ c' ≤ c + 1 ∧ L r' c' = true := by
  by_cases z : L r c = true
  · exact ⟨r, c, by omega, by omega, by omega, by omega, z⟩
  · unfold stepL at h
    rw [if_neg z] at h
    have m := hb _ (of_decide_eq_true h)
    refine Classical.byContradiction fun no => ?_
    have off : ∀ r' c', r - 1 ≤ r' → r' ≤ r + 1 → c - 1 ≤ c' → c' ≤ c + 1 → L r' c' = false := fun r' c' a1 a2 a3 a4 => by
      cases e : L r' c' with
      | false => rfl
      | true => exact absurd ⟨r', c', a1, a2, a3, a4, e⟩ no
    have e : nb L r c = 0 := by
      unfold nb
      rw [off (r - 1) (c - 1), off (r - 1) c, off (r - 1) (c + 1), off r (c - 1), off r (c + 1), off (r + 1) (c - 1), off (r + 1) c, off (r + 1) (c + 1)] <;> first | rfl | omega
    rw [e] at m
    omega
theorem stepL_congr {bs ss : List Int} {L M : Int → Int → Bool} (h : ∀ r c, L r c = M r c) (r c : Int) : stepL bs ss L r c = stepL bs ss M r c := by
  have e : L = M := funext fun r => funext fun c => h r c
  rw [e]
theorem gen_box {bs ss : List Int} {L : Int → Int → Bool} {r0 r1 c0 c1 : Int} (hb : ∀ b ∈ bs, 1 ≤ b ∧ b ≤ 8) (h : ∀ r c, L r c = true → r0 ≤ r ∧ r ≤ r1 ∧ c0 ≤ c ∧ c ≤ c1) :
    ∀ n r c, genL bs ss L n r c = true → r0 - (n : Int) ≤ r ∧ r ≤ r1 + n ∧ c0 - (n : Int) ≤ c ∧ c ≤ c1 + n
  | 0, r, c, z => by
    have := h r c z
    omega
  | n + 1, r, c, z => by
    obtain ⟨r', c', a1, a2, a3, a4, z'⟩ := stepL_near hb z
    have := gen_box hb h n r' c' z'
    omega
theorem memL_congr {ps qs : List Pr} (h : ∀ x, x ∈ ps ↔ x ∈ qs) : memL ps = memL qs := funext fun r => funext fun c => by
  unfold memL
  rw [Bool.eq_iff_iff, decide_eq_true_iff, decide_eq_true_iff, h]
theorem box_lenN {ps : List Pr} {lo : Int} {w : Nat} (nd : ps.Nodup) (h : ∀ x ∈ ps, lo ≤ x.1 ∧ x.1 < lo + (w : Int) ∧ lo ≤ x.2 ∧ x.2 < lo + (w : Int)) : ps.length ≤ w * w := by
  have nd2 : (ps.map fun x => (x.1 - lo).toNat * w + (x.2 - lo).toNat).Nodup := by
    refine List.pairwise_map.mpr (nd.imp_of_mem fun {x y} mx my ne e => ne ?_)
    obtain ⟨a1, a2, a3, a4⟩ := h x mx
    obtain ⟨b1, b2, b3, b4⟩ := h y my
    have c1 : (x.2 - lo).toNat < w := by omega
    have c2 : (y.2 - lo).toNat < w := by omega
    have m1 : ((x.1 - lo).toNat * w + (x.2 - lo).toNat) / w = (x.1 - lo).toNat := by
      rw [Nat.mul_comm, Nat.mul_add_div (by omega), Nat.div_eq_of_lt c1, Nat.add_zero]
    have m2 : ((y.1 - lo).toNat * w + (y.2 - lo).toNat) / w = (y.1 - lo).toNat := by
      rw [Nat.mul_comm, Nat.mul_add_div (by omega), Nat.div_eq_of_lt c2, Nat.add_zero]
    have e1 : (x.1 - lo).toNat = (y.1 - lo).toNat := by rw [← m1, ← m2, e]
    rw [e1] at e
    exact Prod.ext (by omega) (by omega)
  have := nat_nodup_len _ (List.range (w * w)) nd2 fun k m => by
    obtain ⟨x, mx, rfl⟩ := List.mem_map.mp m
    obtain ⟨a1, a2, a3, a4⟩ := h x mx
    have c0 : (x.1 - lo).toNat + 1 ≤ w := by omega
    have c1 : (x.2 - lo).toNat < w := by omega
    rw [List.mem_range]
    have := Nat.mul_le_mul_right w c0
    rw [Nat.add_mul, Nat.one_mul] at this
    omega
  rwa [List.length_map, List.length_range] at this
end
end My
namespace My
open PySem PySem.Spec PyProof.Rows L2 Vx
open TL
local macro_rules | `(tactic| k_invariant "new" ($n, $H:ident, $e:ident, $h:ident)) => `(tactic| (generalize hE : upd _ _ _ = $H; obtain ⟨$e:ident, $h:ident⟩ := gen_e hE $n; clear hE))
local macro_rules | `(tactic| k_places) => `(tactic| first
  | assumption
  | exact lst_of (by assumption)
  | exact tup_of (by assumption)
  | (refine getS (by assumption) ?_; k_places)
  | (refine Same.seq (by assumption) ?_; k_places)
  | (refine tupS (by assumption) ?_; k_places)
  | (refine lst_of ?_; k_places)
  | (refine tup_of ?_; k_places))
local macro_rules | `(tactic| k_subL) => `(tactic| first
  | k_places
  | solve_by_elim (maxDepth := 10) [getS, lst_of, tup_of, Same.seq, tupS])
local macro_rules | `(tactic| k_offL) => `(tactic| first
  | (show (0 : Int) < _; first | omega | decide)
  | (refine ⟨?_, ?_⟩ <;> first | omega | decide)
  | exact .inr ⟨by decide, by decide⟩
  | exact .inl ⟨by decide, by decide⟩
  | exact .inl ⟨by omega, by omega⟩
  | omega)
local macro_rules | `(tactic| k_clsL) => `(tactic| exact Nat.le_of_ble_eq_true rfl)
local macro_rules | `(tactic| k_upd) => `(tactic| simp only [L2.start, List.map_cons, List.map_nil, List.length_cons, List.length_nil, List.replicate_succ, List.replicate_zero, List.cons_append, List.nil_append, List.set_cons_zero, List.set_cons_succ])
section
variable {P : Program} {w : World} {K : PySem.W.Frag} {mg : Str → Option Value} {base : Heap}
def sp_full_block : Sp := fun vs H Q _ => ∃ l : Nat, l < 5 ∧ vs = [.int (l : Int)] ∧ Q (.int (fullN l : Nat)) H
theorem ok_full_block (T : Txt K mg) : FnOk P w K mg base CX0 1 T.f_full_block T.d_full_block ["level"] sp_full_block := by
  refine T.F_full_block.ok sc_full_block (fun vs H Q E h => ?_) (fun cdv A outer s H vs Q E hr h => ?_)
  · obtain ⟨_, _, rfl, _⟩ := h
    rfl
  · obtain ⟨l, hl, rfl, q⟩ := h
    refine ⟨_, (pss_cons (ps_set (i := 1) sc_full_block.nd rfl (.inl rfl) (pe_op op_shlNN pe_int (pv 0)))
      (pss_cons (ps_set (i := 2) sc_full_block.nd rfl (.inl rfl) (pe_op op_sub (pe_op op_shlNN pe_int (pv 1)) pe_int))
      (pss_cons (ps_set (i := 3) sc_full_block.nd rfl (.inl rfl) (pe_op op_fdivW (pe_op op_sub (pe_op op_shlNN pe_int (pe_op op_mul (pv 1) (pe_gcx (by rfl) T.c_SIDE))) pe_int) (pe_op op_sub (pe_op op_shlNN pe_int (pe_gcx (by rfl) T.c_SIDE)) pe_int)))
      (pss_one (ps_ret (pe_op op_mul (pv 2) (pv 3))))))), ?_⟩
    k_upd
    refine ⟨_, rfl, 1, l, 1, rfl, rfl, by decide, by omega, ?_⟩
    have h16 : 1 <<< l ≤ 16 := by
      rw [Nat.one_shiftLeft]
      exact pow_le16 hl
    have h64 : 1 <<< (1 <<< l) ≤ 65536 := by
      rw [Nat.one_shiftLeft (n := 1 <<< l)]
      exact Nat.le_trans (Nat.pow_le_pow_right (by decide) h16) (by decide)
    have fin : (((1 <<< (1 <<< l) : Nat) : Int) - (1 : Int)) * ((((1 <<< ((1 <<< l) * 32) : Nat) : Int) - (1 : Int)) / (((1 <<< 32 : Nat) : Int) - (1 : Int))) = ((fullN l : Nat) : Int) := by
      match l, hl with
      | 0, _ => decide +kernel
      | 1, _ => decide +kernel
      | 2, _ => decide +kernel
      | 3, _ => decide +kernel
      | 4, _ => decide +kernel
    k_upd
    refine ⟨_, rfl, 1, 1 <<< l, 1, rfl, rfl, by decide, by omega, _, _, rfl, rfl, ?_⟩
    k_upd
    refine ⟨_, rfl, _, _, rfl, rfl, .inr ⟨by decide, by decide⟩, 1, (1 <<< l) * 32, 1, rfl, by dsimp only; rw [Int.natCast_mul]; rfl, by decide, by omega, _, _, rfl, rfl, 1, 32, 1, rfl, rfl, by decide, by decide, _, _, rfl, rfl, _, _, rfl, rfl, ?_⟩
    have dv : CDivW ((((1 <<< ((1 <<< l) * 32) : Nat) : Int) - (1 : Int))) (((1 <<< 32 : Nat) : Int) - (1 : Int)) := ⟨by decide, by decide +kernel⟩
    have lo : (((1 <<< (1 <<< l) : Nat) : Int) - (1 : Int)) < 65536 := by
      have : (((1 <<< (1 <<< l) : Nat)) : Int) ≤ ((65536 : Nat) : Int) := Int.ofNat_le.mpr h64
      omega
    have lo2 : -65536 < (((1 <<< (1 <<< l) : Nat) : Int) - (1 : Int)) := by
      have : 0 ≤ (((1 <<< (1 <<< l) : Nat)) : Int) := Int.natCast_nonneg _
      omega
    refine ⟨dv, ?_⟩
    k_upd
    refine ⟨_, rfl, _, rfl, _, _, rfl, rfl, .inl ⟨Int.lt_trans (by decide) lo2, Int.lt_trans lo (by decide)⟩, ?_⟩
    dsimp only
    rw [fin]
    exact q
theorem tru0 {K : PySem.W.Frag} {H : Hp} {n : Nat} (h : n = 0) : TruV K (.int ((n : Nat) : Int)) H false := by
  subst h
  rfl
theorem tru1 {K : PySem.W.Frag} {H : Hp} {n : Nat} (h : n ≠ 0) : TruV K (.int ((n : Nat) : Int)) H true := by
  show true = (((n : Nat) : Int) != 0)
  have : ((n : Nat) : Int) ≠ 0 := by omega
  exact (bne_iff_ne.mpr this).symm
def sp_block_cells : Sp := fun vs H Q _ => ∃ b : Nat, b < 2 ^ 1024 ∧ vs = [.int (b : Int)] ∧ ∀ (H' : Hp) (p : Addr), H p = none → Same H H' → Cells H' p (cellsN b) → Q (.ref p) H'
theorem ok_block_cells (T : Txt K mg) : FnOk P w K mg base CX0 1 T.f_block_cells T.d_block_cells ["block"] sp_block_cells := by
  refine T.F_block_cells.ok sc_block_cells (fun vs H Q E h => ?_) (fun cdv A outer s H vs Q E hr h => ?_)
  · obtain ⟨_, _, rfl, _⟩ := h
    rfl
  · obtain ⟨b, hb, rfl, q⟩ := h
    refine ⟨_, (pss_cons (ps_set (i := 1) sc_block_cells.nd rfl (.inl rfl) (pe_lst pa_nil))
      (pss_cons (ps_while PassesOwn.never (pt_truth (pv 0) (by intro _; rfl))
      (pss_cons (ps_set (i := 2) sc_block_cells.nd rfl (.inl rfl) (pe_op op_and (pv 0) (pe_un un_neg (pv 0))))
      (pss_cons (ps_expr (pe_bm PySem.F.plainAttrs_list PySem.F.slot_list_append PySem.F.type_list_append mt_append (pv 1) (pa_cons (pe_callB call_divmod (by rfl) T.z_divmod (by decide +kernel) (pa_cons (pe_op op_sub (pe_bits (pv 2)) pe_int) (pa_cons (pe_gcx (by rfl) T.c_SIDE) pa_nil))) pa_nil)))
      (pss_one (ps_aug (i := 0) sc_block_cells.nd rfl (.inl rfl) (pv 2) ip_xorNN)))))
      (pss_one (ps_ret (pv 1))))), ?_⟩
    k_upd
    refine ⟨by k_clsL, fun cl nc => ?_⟩
    k_invariant "new" (nc, H1, e1, g1)
    k_upd
    unfold gName
    k_upd
    refine while_by (fun σ H' => Same H H' ∧ ∃ (R : Nat) (x2 : Option V), σ = [some (.int (R : Int)), some (.ref cl), x2] ∧ R < 2 ^ 1024 ∧
          ∃ us : List (Addr × Pr), H' cl = some (.lst (us.map fun t => V.ref t.1)) ∧ (∀ t ∈ us, H' t.1 = some (.tup [.int t.2.1, .int t.2.2])) ∧ us.map (·.2) ++ (bitsB 1024 R).map at32 = cellsN b)
        (fun σ _ => match σ with | [some (.int R), _, _] => (bitsB 1024 R.toNat).length | _ => 0)
        ⟨e1, b, _, rfl, hb, [], g1, fun _ m => (by cases m), rfl⟩ ?_ ?_
    · rintro σ H4 ⟨sm, R, x2, rfl, lR, us, hus, htu, eus⟩
      by_cases z : R = 0
      · refine ⟨_, rfl, _, tru0 z, iteF ?_⟩
        rw [z, bits_zero, List.map_nil, List.append_nil] at eus
        refine ⟨_, rfl, q H4 cl nc sm ⟨us, hus, htu, eus⟩⟩
      · obtain ⟨k, a, eR⟩ := low_bit R z
        subst eR
        refine ⟨_, rfl, _, tru1 z, iteT ?_⟩
        refine ⟨_, rfl, _, rfl, _, rfl, _, _, rfl, rfl, ?_⟩
        k_upd
        rw [low_and]
        have lu : us.length < sizeLine := by
          have s1 := cellsN_len b
          have s2 := bitsB_len 1024 b
          unfold popN at s1
          rw [← eus, List.length_append, List.length_map] at s1
          rw [sizeLine_eq]
          omega
        refine ⟨_, rfl, .inl ⟨rfl, _, lst_of hus⟩, _, rfl, _, rfl, ?_⟩
        rw [intBits_pow]
        refine ⟨_, _, rfl, rfl, _, _, rfl, ⟨by decide, by decide⟩, fun p5 n5 => ?_⟩
        dsimp only
        rw [show ((k + 1 : Nat) : Int) - 1 = (k : Int) by omega]
        k_invariant "new" (n5, H5, e5, g5)
        refine ⟨_, _, _, rfl, rfl, e5 _ _ hus, by rw [List.length_map]; exact lu, ?_⟩
        refine ⟨_, rfl, _, rfl, _, _, rfl, rfl, ?_⟩
        rw [low_xor]
        k_upd
        have off : ∀ (b : Addr) (o : HO), H5 b = some o → (∀ xs, o ≠ .lst xs) → upd H5 cl (.lst ((us.map fun t => V.ref t.1) ++ [.ref p5])) b = some o := fun b o e ne => by
          rw [upd_ne fun z => ?_]
          · exact e
          · rw [z, e5 _ _ hus] at e
            exact ne _ (Option.some.inj e).symm
        have low := bits_low (N := 1024) lR
        refine ⟨⟨mutS (sm.trans e5) nc, _, _, rfl, Nat.lt_of_le_of_lt ?_ lR, us ++ [(p5, at32 k)], ?_, fun t m => ?_, ?_⟩, ?_⟩
        · exact Nat.mul_le_mul_left _ (by omega)
        · rw [upd_same, List.map_append]
          rfl
        · rcases List.mem_append.mp m with m | m
          · exact off _ _ (e5 _ _ (htu t m)) (fun _ z => by cases z)
          · rw [List.mem_singleton.mp m]
            exact off _ _ g5 (fun _ z => by cases z)
        · rw [List.map_append, ← eus, low, List.map_cons, List.append_assoc]
          rfl
        · show (bitsB 1024 (((2 ^ k * (2 * a) : Nat) : Int)).toNat).length < (bitsB 1024 (((2 ^ k * (2 * a + 1) : Nat) : Int)).toNat).length
          rw [Int.toNat_natCast, Int.toNat_natCast, low, List.length_cons]
          exact Nat.lt_succ_self _
    · exact fun σ H Q Q' m h => h.elim fun v h => ⟨v, h.1, h.2.elim fun k h => ⟨k, h.1, m _ _ h.2⟩⟩
def sp_block_count : Sp := fun vs H Q _ => ∃ b : Nat, b < 2 ^ 1024 ∧ vs = [.int (b : Int)] ∧ Q (.int (popN b : Nat)) H
theorem ok_block_count (T : Txt K mg) : FnOk P w K mg base CX0 1 T.f_block_count T.d_block_count ["block"] sp_block_count := by
  refine T.F_block_count.ok sc_block_count (fun vs H Q E h => ?_) (fun cdv A outer s H vs Q E hr h => ?_)
  · obtain ⟨_, _, rfl, _⟩ := h
    rfl
  · obtain ⟨b, hb, rfl, q⟩ := h
    refine ⟨_, (pss_cons (ps_set (i := 1) sc_block_count.nd rfl (.inl rfl) (pe_joined1 (pe_fmtB (pv 0) (pe_joined1 pe_str))))
      (pss_one (ps_ret (pe_m1 PySem.F.slot_str_count PySem.F.type_str_count mt_count (pv 1) pe_str)))), ?_⟩
    k_upd
    refine ⟨_, rfl, b, rfl, binT_len hb (by decide), ?_⟩
    k_upd
    refine ⟨_, rfl, ⟨_, rfl⟩, _, _, rfl, rfl, ?_⟩
    rw [count_bin hb]
    exact q
def bf (ru fl : Addr) : List (Str × V) := putF "_full" (.ref fl) (putF "_rule" (.ref ru) [])
def BlkAt (C : Addr) (H : Hp) (bo : Addr) : Prop :=
  ∃ dx ru fl, H bo = some (.ins C dx (bf ru fl)) ∧ H fl = some (.lst ((List.range 5).map fun l => .int (fullN l : Nat)))
theorem BlkAt.up {C : Addr} {H H' : Hp} {bo : Addr} (e : Same H H') (h : BlkAt C H bo) : BlkAt C H' bo := by
  obtain ⟨dx, ru, fl, h1, h3⟩ := h
  exact ⟨dx, ru, fl, e _ _ h1, e _ _ h3⟩
theorem range5_at {l : Nat} (h : l < 5) : ((List.range 5).map fun l => V.int (fullN l : Nat))[l]? = some (.int (fullN l : Nat)) := by
  match l, h with
  | 0, _ => rfl
  | 1, _ => rfl
  | 2, _ => rfl
  | 3, _ => rfl
  | 4, _ => rfl
def sp_cut (C : Addr) : Sp := fun vs H Q _ => ∃ (bo : Addr) (l b row col : Nat), l < 5 ∧ vs = [.ref bo, .int (l : Int), .int (b : Int), .int (row : Int), .int (col : Int)] ∧ BlkAt C H bo ∧ Q (.int (cutN l b row col : Nat)) H
theorem ok_Blocks_cut (T : Txt K mg) : FnOk P w K mg base CX0 1 T.f_Blocks_cut T.d_Blocks_cut ["self", "level", "block", "row", "column"] (sp_cut T.C_Blocks) := by
  refine T.F_Blocks_cut.ok sc_Blocks_cut (fun vs H Q E h => ?_) (fun cdv A outer s H vs Q E hr h => ?_)
  · obtain ⟨_, _, _, _, _, _, rfl, _⟩ := h
    rfl
  · obtain ⟨bo, l, b, row, col, hl, rfl, ⟨dx, ru, fl, h1, h3⟩, q⟩ := h
    refine ⟨_, (pss_one (ps_ret (pe_op op_andNN (pe_op op_shrNN (pv 2) (pe_op op_add (pe_op op_mul (pv 3) (pe_gcx (by rfl) T.c_SIDE)) (pv 4))) (pe_ix ix_list (pe_fld (pv 0) rfl) (pv 1) (fun _ _ => rfl))))), ?_⟩
    k_upd
    refine ⟨_, rfl, _, rfl, _, _, rfl, rfl, .inr ⟨by decide, by decide⟩, _, rfl, _, _, rfl, rfl, b, row * 32 + col, rfl, by dsimp only; rw [Int.natCast_add, Int.natCast_mul]; rfl, ?_⟩
    refine ⟨_, rfl, bo, _, _, _, _, rfl, h1, T.cl_Blocks, T.na_Blocks__full, rfl, _, rfl, _, _, _, _, rfl, rfl, lst_of h3, atI_nat (range5_at hl), _, _, rfl, rfl, ?_⟩
    exact q
theorem half_eq (l : Nat) : (1 <<< (l + 1)) >>> 1 = 2 ^ l := by
  rw [Nat.one_shiftLeft, Nat.shiftRight_eq_div_pow, Nat.pow_succ]
  omega
def sp_put (C : Addr) : Sp := fun vs H Q _ => ∃ (bo : Addr) (l a b c d : Nat), l < 5 ∧ a < 2 ^ 1024 ∧ b < 2 ^ 1024 ∧ c < 2 ^ 1024 ∧ d < 2 ^ 1024 ∧ vs = [.ref bo, .int ((l + 1 : Nat) : Int), .int (a : Int), .int (b : Int), .int (c : Int), .int (d : Int)] ∧ Q (.int (putN (2 ^ l) a b c d : Nat)) H
theorem ok_Blocks_put_together (T : Txt K mg) : FnOk P w K mg base CX0 1 T.f_Blocks_put_together T.d_Blocks_put_together ["self", "level", "a", "b", "c", "d"] (sp_put T.C_Blocks) := by
  refine T.F_Blocks_put_together.ok sc_Blocks_put_together (fun vs H Q E h => ?_) (fun cdv A outer s H vs Q E hr h => ?_)
  · obtain ⟨_, _, _, _, _, _, _, _, _, _, _, rfl, _⟩ := h
    rfl
  · obtain ⟨bo, l, a, b, c, d, hl, ha, hb, hc, hd, rfl, q⟩ := h
    refine ⟨_, (pss_cons (ps_set (i := 6) sc_Blocks_put_together.nd rfl (.inl rfl) (pe_op op_shrNN (pe_op op_shlNN pe_int (pv 1)) pe_int))
      (pss_one (ps_ret (pe_op op_orNN (pe_op op_orNN (pe_op op_orNN (pv 2) (pe_op op_shlNN (pv 3) (pv 6))) (pe_op op_shlNN (pv 4) (pe_op op_mul (pv 6) (pe_gcx (by rfl) T.c_SIDE)))) (pe_op op_shlNN (pv 5) (pe_op op_add (pe_op op_mul (pv 6) (pe_gcx (by rfl) T.c_SIDE)) (pv 6))))))), ?_⟩
    k_upd
    refine ⟨_, rfl, 1, l + 1, 1, rfl, rfl, by decide, by omega, _, _, rfl, rfl, ?_⟩
    rw [half_eq]
    have h16 := pow_le16 hl
    k_upd
    refine ⟨_, rfl, _, rfl, _, rfl, b, 2 ^ l, 1024, rfl, rfl, hb, by omega, _, _, rfl, rfl, ?_⟩
    refine ⟨_, rfl, _, rfl, _, _, rfl, rfl, .inr ⟨by decide, by decide⟩, c, 2 ^ l * 32, 1024, rfl, by dsimp only; rw [Int.natCast_mul]; rfl, hc, by omega, _, _, rfl, rfl, ?_⟩
    refine ⟨_, rfl, _, rfl, _, _, rfl, rfl, .inr ⟨by decide, by decide⟩, _, rfl, _, _, rfl, rfl, d, 2 ^ l * 32 + 2 ^ l, 1024, rfl, by dsimp only; rw [Int.natCast_add, Int.natCast_mul]; rfl, hd, by omega, _, _, rfl, rfl, ?_⟩
    exact q
def sp_quarters (C : Addr) : Sp := fun vs H Q _ => ∃ (bo : Addr) (l b : Nat), l < 5 ∧ vs = [.ref bo, .int ((l + 1 : Nat) : Int), .int (b : Int)] ∧ BlkAt C H bo ∧
  ∀ (H' : Hp) (p : Addr), H p = none → Same H H' → H' p = some (.lst ([cutN l b 0 0, cutN l b 0 (2 ^ l), cutN l b (2 ^ l) 0, cutN l b (2 ^ l) (2 ^ l)].map fun (n : Nat) => V.int (n : Int))) → Q (.ref p) H'
theorem ok_Blocks_quarters (T : Txt K mg) : FnOk P w K mg base CX0 2 T.f_Blocks_quarters T.d_Blocks_quarters ["self", "level", "block"] (sp_quarters T.C_Blocks) := by
  refine T.F_Blocks_quarters.ok sc_Blocks_quarters (fun vs H Q E h => ?_) (fun cdv A outer s H vs Q E hr h => ?_)
  · obtain ⟨_, _, _, _, rfl, _⟩ := h
    rfl
  · obtain ⟨bo, l, b, hl, rfl, hB, q⟩ := h
    refine ⟨_, (pss_cons (ps_set (i := 3) sc_Blocks_quarters.nd rfl (.inl rfl) (pe_op op_shrNN (pe_op op_shlNN pe_int (pv 1)) pe_int))
      (pss_cons (ps_set (i := 4) sc_Blocks_quarters.nd rfl (.inl rfl) (pe_tup (pa_cons (pe_tup (pa_cons pe_int (pa_cons pe_int pa_nil))) (pa_cons (pe_tup (pa_cons pe_int (pa_cons (pv 3) pa_nil))) (pa_cons (pe_tup (pa_cons (pv 3) (pa_cons pe_int pa_nil))) (pa_cons (pe_tup (pa_cons (pv 3) (pa_cons (pv 3) pa_nil))) pa_nil))))))
      (pss_one (ps_ret (pe_lc (own := [("row", 5), ("column", 6)]) (tt := tYes) rfl sc_Blocks_quarters.nd (pi_tup (pv 4)) (blkOk_by (own := [("row", 5), ("column", 6)]) (N := N_Blocks_quarters) (sc := defScope s_Blocks_quarters) (by decide +kernel)) (fun _ _ _ _ _ => (pg_tupK (K := K) (n := 2) rfl rfl (pgs_cons (pg_name (i := 5) sc_Blocks_quarters.nd rfl (.inl rfl)) (pgs_cons (pg_name (i := 6) sc_Blocks_quarters.nd rfl (.inl rfl)) pgs_nil)))) (fun _ _ _ _ _ => pts_nil) (fun _ _ _ _ _ => (pe_meth (pv 0) T.cl_Blocks T.m_Blocks_cut (ok_Blocks_cut T) (hr.mono (by decide)) T.b_Blocks_cut .nil pass0 (pa_cons (pe_op op_sub (pv 1) pe_int) (pa_cons (pv 2) (pa_cons (pv 5) (pa_cons (pv 6) pa_nil))))))))))), ?_⟩
    k_upd
    refine ⟨_, rfl, 1, l + 1, 1, rfl, rfl, by decide, by omega, _, _, rfl, rfl, ?_⟩
    rw [half_eq]
    have h16 := pow_le16 hl
    k_upd
    refine ⟨by k_clsL, fun a1 m1 => ?_⟩
    k_invariant "new" (m1, A1, ea1, h1)
    refine ⟨_, rfl, by k_clsL, fun a2 m2 => ?_⟩
    k_invariant "new" (m2, A2, ea2, h2)
    refine ⟨_, rfl, by k_clsL, fun a3 m3 => ?_⟩
    k_invariant "new" (m3, A3, ea3, h3)
    refine ⟨_, rfl, _, rfl, by k_clsL, fun a4 m4 => ?_⟩
    k_invariant "new" (m4, A4, ea4, h4)
    refine ⟨by k_clsL, fun a5 m5 => ?_⟩
    k_invariant "new" (m5, A5, ea5, h5)
    k_upd
    have e5 : Same H A5 := ea1.trans (ea2.trans (ea3.trans (ea4.trans ea5)))
    have g1 : A5 a1 = some (.tup [.int ((0 : Nat) : Int), .int ((0 : Nat) : Int)]) := by k_subL
    have g2 : A5 a2 = some (.tup [.int ((0 : Nat) : Int), .int ((2 ^ l : Nat) : Int)]) := by k_subL
    have g3 : A5 a3 = some (.tup [.int ((2 ^ l : Nat) : Int), .int ((0 : Nat) : Int)]) := by k_subL
    have g4 : A5 a4 = some (.tup [.int ((2 ^ l : Nat) : Int), .int ((2 ^ l : Nat) : Int)]) := by k_subL
    refine ⟨_, rfl, a5, rfl, ⟨_, tup_of h5⟩, fun p np => ?_⟩
    refine lc_tup (K := K) (a := a5) (xs := [.ref a1, .ref a2, .ref a3, .ref a4]) (fun i H' => Same A5 H' ∧ H' p = some (.lst (([cutN l b 0 0, cutN l b 0 (2 ^ l), cutN l b (2 ^ l) 0, cutN l b (2 ^ l) (2 ^ l)].take i).map fun (n : Nat) => V.int (n : Int))))
      ⟨newS np, upd_same⟩ (fun i H' _ g => tup_of (g.1 _ _ h5)) ?_ ?_
    · rintro i x H' hi ⟨sm, hp⟩
      obtain ⟨a, r, c, ex, ha, hc⟩ : ∃ (a : Addr) (r c : Nat), x = V.ref a ∧ A5 a = some (.tup [.int (r : Int), .int (c : Int)]) ∧ [cutN l b 0 0, cutN l b 0 (2 ^ l), cutN l b (2 ^ l) 0, cutN l b (2 ^ l) (2 ^ l)][i]? = some (cutN l b r c) := by
        match i, hi with
        | 0, hi => exact ⟨a1, 0, 0, (Option.some.inj hi).symm, g1, rfl⟩
        | 1, hi => exact ⟨a2, 0, 2 ^ l, (Option.some.inj hi).symm, g2, rfl⟩
        | 2, hi => exact ⟨a3, 2 ^ l, 0, (Option.some.inj hi).symm, g3, rfl⟩
        | 3, hi => exact ⟨a4, 2 ^ l, 2 ^ l, (Option.some.inj hi).symm, g4, rfl⟩
        | n + 4, hi => cases hi
      subst ex
      have ha' := sm _ _ ha
      refine ⟨a, _, rfl, tup_of ha', rfl, _, _, rfl, _, _, rfl, rfl, wipe2 _ 5 6 _ _, tyesT ?_⟩
      obtain ⟨dxb, rub, flb, hb1, hb2⟩ := hB.up (e5.trans sm)
      refine ⟨_, rfl, bo, _, _, rfl, hb1, rfl, _, rfl, _, _, rfl, rfl, _, rfl, _, rfl, _, rfl, bo, l, b, r, c, hl, ?_, hB.up (e5.trans sm), _, hp, ?_, mutS sm np, ?_⟩
      · dsimp only
        rw [show ((l + 1 : Nat) : Int) - 1 = (l : Int) by omega]
        rfl
      · rw [List.length_map, List.length_take, sizeLine_eq]
        exact Nat.lt_of_le_of_lt (Nat.min_le_right _ _) (by show 4 < 16777216; decide)
      · rw [upd_same, take_next hc, List.map_append]
        rfl
    · rintro H' ⟨sm, hp⟩
      exact q H' p (backS e5 np) (e5.trans sm) hp
def BlkU (C : Addr) (H : Hp) (bo ru : Addr) : Prop :=
  ∃ dx fl, H bo = some (.ins C dx (bf ru fl)) ∧ H fl = some (.lst ((List.range 5).map fun l => .int (fullN l : Nat)))
theorem BlkU.up {C : Addr} {H H' : Hp} {bo ru : Addr} (e : Same H H') (h : BlkU C H bo ru) : BlkU C H' bo ru := by
  obtain ⟨dx, fl, h1, h3⟩ := h
  exact ⟨dx, fl, e _ _ h1, e _ _ h3⟩
def sp_Blocks_init (C : Addr) : Sp := fun vs H Q _ => ∃ (H0 : Hp) (bo ru dx : Addr), vs = [.ref bo, .ref ru] ∧ Same H0 H ∧ H0 bo = none ∧ H bo = some (.ins C dx []) ∧ ∀ H', Same H0 H' → BlkU C H' bo ru → Q .non H'
theorem ok_Blocks_init (T : Txt K mg) : FnOk P w K mg base CX0 2 T.f_Blocks_init T.d_Blocks_init ["self", "rule"] (sp_Blocks_init T.C_Blocks) := by
  refine T.F_Blocks_init.ok sc_Blocks_init (fun vs H Q E h => ?_) (fun cdv A outer s H vs Q E hr h => ?_)
  · obtain ⟨_, _, _, _, rfl, _⟩ := h
    rfl
  · obtain ⟨H0, bo, ru, dx, rfl, s0, b0, hb, q⟩ := h
    refine ⟨_, (pss_cons (ps_fld (pv 0) (pv 1) rfl)
      (pss_one (ps_fld (pv 0) (pe_lc (own := [("level", 2)]) (g := gName 2) (tt := tYes) rfl sc_Blocks_init.nd (pi_range1 (by rfl) T.z_range (pa_cons (pe_gcx (by rfl) T.c_TOP) pa_nil)) (blkOk_by (own := [("level", 2)]) (N := N_Blocks_init) (sc := defScope s_Blocks_init) (by decide +kernel)) (fun _ _ _ _ _ => pg_name (i := 2) sc_Blocks_init.nd rfl (Or.inl rfl)) (fun _ _ _ _ _ => pts_nil) (fun _ _ _ _ _ => (pe_call (ok_full_block T) (hr.mono (by decide)) (by rfl) T.g_full_block T.F_full_block.kp T.b_full_block .nil pass0 (pa_cons (pv 2) pa_nil)))) rfl))), ?_⟩
    k_upd
    refine ⟨_, rfl, _, rfl, bo, T.C_Blocks, dx, [], rfl, hb, T.cl_Blocks, T.na_Blocks__rule, (by show 0 < 1000; decide), ?_⟩
    have s1 : Same H0 (upd H bo (.ins T.C_Blocks dx (putF "_rule" (.ref ru) []))) := mutS s0 b0
    have g1 : upd H bo (.ins T.C_Blocks dx (putF "_rule" (.ref ru) [])) bo = some (.ins T.C_Blocks dx (putF "_rule" (.ref ru) [])) := upd_same
    generalize upd H bo (.ins T.C_Blocks dx (putF "_rule" (.ref ru) [])) = H1 at s1 g1
    refine ⟨5, rfl, by decide, by decide, fun p np => ?_⟩
    refine lc_range (lo := 0) (n := 5) (fun i H' => Same H1 H' ∧ H' p = some (.lst ((List.range i).map fun l => .int (fullN l : Nat))))
      ⟨newS np, upd_same⟩ ?_ ?_
    · rintro i H' hi ⟨sm, hp⟩
      refine ⟨rfl, _, rfl, i, hi, ?_, _, hp, ?_, mutS sm np, ?_⟩
      · rw [Int.zero_add]
        rfl
      · rw [List.length_map, List.length_range, sizeLine_eq]
        omega
      · rw [upd_same, List.range_succ, List.map_append]
        rfl
    · rintro H' ⟨sm, hp⟩
      have gb : H' bo = some (.ins T.C_Blocks dx (putF "_rule" (.ref ru) [])) := sm _ _ g1
      refine ⟨_, rfl, bo, T.C_Blocks, dx, _, rfl, gb, T.cl_Blocks, T.na_Blocks__full, (by show 1 < 1000; decide), ?_⟩
      refine q _ (mutS (s1.trans sm) b0) ⟨dx, p, upd_same, ?_⟩
      rw [upd_ne fun e => ?_]
      · exact hp
      · rw [e, gb] at hp
        cases hp
def sp_next_block (C : Addr) : Sp := fun vs H Q _ => ∃ (r : Addr) (b N : Nat) (bs ss : List Int), vs = [.int (b : Int), .ref r] ∧ b < 2 ^ N ∧ N ≤ 4096 ∧ RuleAt C H r bs ss ∧ (∀ b ∈ bs, 0 ≤ b ∧ b ≤ 8) ∧ (∀ b ∈ ss, 0 ≤ b ∧ b ≤ 8) ∧
  ∀ (H' : Hp), Same H H' → Q (.int (nextBlk bs ss b : Nat)) H'
theorem ones_lt {b N : Nat} (h : b < 2 ^ N) : ones3 (b <<< 1) b (b >>> 1) < 2 ^ (N + 2) ∧ twos3 (b <<< 1) b (b >>> 1) < 2 ^ (N + 2) := by
  have z : ∀ k, N ≤ k → b.testBit k = false := fun k hk => Nat.testBit_lt_two_pow (Nat.lt_of_lt_of_le h (Nat.pow_le_pow_right (by decide) hk))
  refine ⟨Nat.lt_pow_two_of_testBit _ fun i hi => ?_, Nat.lt_pow_two_of_testBit _ fun i hi => ?_⟩
  · rw [(ones_at (by omega)).1, z _ (by omega), z _ (by omega), z _ (by omega)]
    rfl
  · rw [(ones_at (by omega)).2, z _ (by omega), z _ (by omega), z _ (by omega)]
    rfl
theorem ok_next_block (T : Txt K mg) : FnOk P w K mg base CX0 2 T.f_next_block T.d_next_block ["block", "rule"] (sp_next_block T.C_Rule) := by
  refine T.F_next_block.ok sc_next_block (fun vs H Q E h => ?_) (fun cdv A outer s H vs Q E hr h => ?_)
  · obtain ⟨_, _, _, _, _, rfl, _⟩ := h
    rfl
  · obtain ⟨r, b, N, bs, ss, rfl, hb, hN, hR, g1, g2, q⟩ := h
    refine ⟨_, (pss_cons (ps_asg (pe_call (ok_sums_of T) (hr.mono (by decide)) (by rfl) T.g_sums_of T.F_sums_of.kp T.b_sums_of .nil pass0 (pa_cons (pe_op op_shlNN (pv 0) pe_int) (pa_cons (pv 0) (pa_cons (pe_op op_shrNN (pv 0) pe_int) pa_nil)))) (pg_tupK (K := K) (n := 2) rfl rfl (pgs_cons (pg_name (i := 2) sc_next_block.nd rfl (.inl rfl)) (pgs_cons (pg_name (i := 3) sc_next_block.nd rfl (.inl rfl)) pgs_nil))))
      (pss_cons (ps_set (i := 4) sc_next_block.nd rfl (.inl rfl) (pe_call (ok_totals_of T) (hr.mono (by decide)) (by rfl) T.g_totals_of T.F_totals_of.kp T.b_totals_of .nil pass0 (pa_cons (pe_tup (pa_cons (pe_op op_shlNN (pv 2) (pe_gcx (by rfl) T.c_SIDE)) (pa_cons (pe_op op_shlNN (pv 3) (pe_gcx (by rfl) T.c_SIDE)) pa_nil))) (pa_cons (pe_tup (pa_cons (pv 2) (pa_cons (pv 3) pa_nil))) (pa_cons (pe_tup (pa_cons (pe_op op_shrNN (pv 2) (pe_gcx (by rfl) T.c_SIDE)) (pa_cons (pe_op op_shrNN (pv 3) (pe_gcx (by rfl) T.c_SIDE)) pa_nil))) pa_nil)))))
      (pss_one (ps_ret (pe_call (ok_next_strip T) (hr.mono (by decide)) (by rfl) T.g_next_strip T.F_next_strip.kp T.b_next_strip .nil pass0 (pa_cons (pv 0) (pa_cons (pv 4) (pa_cons (pv 1) pa_nil)))))))), ?_⟩
    k_upd
    obtain ⟨o1, o2⟩ := ones_lt hb
    refine ⟨_, rfl, b, 1, N, rfl, rfl, hb, by omega, _, rfl, _, rfl, b, 1, rfl, rfl, ?_⟩
    refine ⟨b <<< 1, b, b >>> 1, rfl, fun H1 p e1 n1 h1 => ?_⟩
    refine ⟨p, _, rfl, tup_of h1, rfl, _, _, rfl, _, _, rfl, rfl, ?_⟩
    generalize eo : ones3 (b <<< 1) b (b >>> 1) = o at *
    generalize et : twos3 (b <<< 1) b (b >>> 1) = t at *
    k_upd
    refine ⟨_, rfl, o, 32, N + 2, rfl, rfl, o1, by omega, _, rfl, t, 32, N + 2, rfl, rfl, o2, by omega, by k_clsL, fun pa na => ?_⟩
    k_invariant "new" (na, H2, e2, h2)
    refine ⟨_, rfl, _, rfl, by k_clsL, fun ph nh => ?_⟩
    k_invariant "new" (nh, H3, e3, h3)
    refine ⟨_, rfl, o, 32, rfl, rfl, _, rfl, t, 32, rfl, rfl, by k_clsL, fun pb nb' => ?_⟩
    k_invariant "new" (nb', H4, e4, h4)
    refine ⟨pa, ph, pb, _, _, _, _, _, _, rfl, e4 _ _ (e3 _ _ h2), e4 _ _ h3, h4, fun H5 pt e5 n5 h5 => ?_⟩
    have s5 := e1.trans (e2.trans (e3.trans (e4.trans e5)))
    k_upd
    refine ⟨_, rfl, _, rfl, _, rfl, pt, r, b, _, _, _, _, bs, ss, rfl, h5, hR.up s5, g1, g2, fun H6 e6 => ?_⟩
    have := q H6 (s5.trans e6)
    unfold nextBlk at this
    rw [eo, et] at this
    exact this
end
end My
namespace My
open PySem PySem.Spec PyProof.Rows L2 Vx
open TL
local macro_rules | `(tactic| k_invariant "new" ($n, $H:ident, $e:ident, $h:ident)) => `(tactic| (generalize hE : upd _ _ _ = $H; obtain ⟨$e:ident, $h:ident⟩ := gen_e hE $n; clear hE))
local macro_rules | `(tactic| k_places) => `(tactic| first
  | assumption
  | exact lst_of (by assumption)
  | exact tup_of (by assumption)
  | (refine getS (by assumption) ?_; k_places)
  | (refine Same.seq (by assumption) ?_; k_places)
  | (refine tupS (by assumption) ?_; k_places)
  | (refine lst_of ?_; k_places)
  | (refine tup_of ?_; k_places))
local macro_rules | `(tactic| k_subL) => `(tactic| first
  | k_places
  | solve_by_elim (maxDepth := 10) [getS, lst_of, tup_of, Same.seq, tupS])
local macro_rules | `(tactic| k_offL) => `(tactic| first
  | (show (0 : Int) < _; first | omega | decide)
  | (refine ⟨?_, ?_⟩ <;> first | omega | decide)
  | exact .inr ⟨by decide, by decide⟩
  | exact .inl ⟨by decide, by decide⟩
  | exact .inl ⟨by omega, by omega⟩
  | omega)
local macro_rules | `(tactic| k_clsL) => `(tactic| exact Nat.le_of_ble_eq_true rfl)
local macro_rules | `(tactic| k_upd) => `(tactic| simp only [L2.start, List.map_cons, List.map_nil, List.length_cons, List.length_nil, List.replicate_succ, List.replicate_zero, List.cons_append, List.nil_append, List.set_cons_zero, List.set_cons_succ])
section
variable {P : Program} {w : World} {K : PySem.W.Frag} {mg : Str → Option Value} {base : Heap}
def BlkR (C CR : Addr) (H : Hp) (bo : Addr) (bs ss : List Int) : Prop :=
  ∃ dx ru fl, H bo = some (.ins C dx (bf ru fl)) ∧ H fl = some (.lst ((List.range 5).map fun l => .int (fullN l : Nat))) ∧ RuleAt CR H ru bs ss
theorem BlkR.up {C CR : Addr} {H H' : Hp} {bo : Addr} {bs ss : List Int} (e : Same H H') (h : BlkR C CR H bo bs ss) : BlkR C CR H' bo bs ss := by
  obtain ⟨dx, ru, fl, h1, h2, h3⟩ := h
  exact ⟨dx, ru, fl, e _ _ h1, e _ _ h2, h3.up e⟩
theorem BlkR.at {C CR : Addr} {H : Hp} {bo : Addr} {bs ss : List Int} (h : BlkR C CR H bo bs ss) : BlkAt C H bo := by
  obtain ⟨dx, ru, fl, h1, h2, _⟩ := h
  exact ⟨dx, ru, fl, h1, h2⟩
theorem quarter2 (l : Nat) : (1 <<< (l + 2)) >>> 2 = 2 ^ l := by
  rw [Nat.one_shiftLeft, Nat.shiftRight_eq_div_pow, Nat.pow_add]
  omega
def sp_centre (C : Addr) : Sp := fun vs H Q _ => ∃ (bo : Addr) (l b : Nat), l < 4 ∧ vs = [.ref bo, .int ((l + 2 : Nat) : Int), .int (b : Int)] ∧ BlkAt C H bo ∧ Q (.int (cutN (l + 1) b (2 ^ l) (2 ^ l) : Nat)) H
theorem ok_Blocks_centre (T : Txt K mg) : FnOk P w K mg base CX0 2 T.f_Blocks_centre T.d_Blocks_centre ["self", "level", "block"] (sp_centre T.C_Blocks) := by
  refine T.F_Blocks_centre.ok sc_Blocks_centre (fun vs H Q E h => ?_) (fun cdv A outer s H vs Q E hr h => ?_)
  · obtain ⟨_, _, _, _, rfl, _⟩ := h
    rfl
  · obtain ⟨bo, l, b, hl, rfl, hB, q⟩ := h
    refine ⟨_, (pss_cons (ps_set (i := 3) sc_Blocks_centre.nd rfl (.inl rfl) (pe_op op_shrNN (pe_op op_shlNN pe_int (pv 1)) pe_int))
      (pss_one (ps_ret (pe_meth (pv 0) T.cl_Blocks T.m_Blocks_cut (ok_Blocks_cut T) (hr.mono (by decide)) T.b_Blocks_cut .nil pass0 (pa_cons (pe_op op_sub (pv 1) pe_int) (pa_cons (pv 2) (pa_cons (pv 3) (pa_cons (pv 3) pa_nil)))))))), ?_⟩
    k_upd
    refine ⟨_, rfl, 1, l + 2, 1, rfl, rfl, by decide, by omega, _, 2, rfl, rfl, ?_⟩
    rw [quarter2]
    obtain ⟨dx, ru, fl, h1, h2⟩ := id hB
    refine ⟨_, rfl, bo, _, _, rfl, h1, rfl, _, rfl, _, _, rfl, rfl, _, rfl, _, rfl, _, rfl, bo, l + 1, b, 2 ^ l, 2 ^ l, by omega, ?_, hB, q⟩
    dsimp only
    rw [show ((l + 2 : Nat) : Int) - 1 = ((l + 1 : Nat) : Int) by omega]
    rfl
def sp_centre_after (C CR : Addr) : Sp := fun vs H Q _ => ∃ (bo : Addr) (l b n : Nat) (bs ss : List Int), l < 4 ∧ n ≤ 16 ∧ vs = [.ref bo, .int ((l + 2 : Nat) : Int), .int (b : Int), .int (n : Int)] ∧ b < 2 ^ 1024 ∧ BlkR C CR H bo bs ss ∧ (∀ b ∈ bs, 1 ≤ b ∧ b ≤ 8) ∧ (∀ b ∈ ss, 0 ≤ b ∧ b ≤ 8) ∧
  ∀ H', Same H H' → Q (.int (cutN (l + 1) (iterBlk bs ss n b) (2 ^ l) (2 ^ l) : Nat)) H'
theorem ok_Blocks_centre_after (T : Txt K mg) : FnOk P w K mg base CX0 3 T.f_Blocks_centre_after T.d_Blocks_centre_after ["self", "level", "block", "generations"] (sp_centre_after T.C_Blocks T.C_Rule) := by
  refine T.F_Blocks_centre_after.ok sc_Blocks_centre_after (fun vs H Q E h => ?_) (fun cdv A outer s H vs Q E hr h => ?_)
  · obtain ⟨_, _, _, _, _, _, _, _, rfl, _⟩ := h
    rfl
  · obtain ⟨bo, l, b, n, bs, ss, hl, hn, rfl, hb, hB, g1, g2, q⟩ := h
    refine ⟨_, (pss_cons (ps_for PassesOwn.never rfl (pi_range1 (by rfl) T.z_range (pa_cons (pv 3) pa_nil)) (pg_name (i := 4) sc_Blocks_centre_after.nd rfl (.inl rfl))
      (pss_one (ps_set (i := 2) sc_Blocks_centre_after.nd rfl (.inl rfl) (pe_call (ok_next_block T) (hr.mono (by decide)) (by rfl) T.g_next_block T.F_next_block.kp T.b_next_block .nil pass0 (pa_cons (pv 2) (pa_cons (pe_fld (pv 0) rfl) pa_nil))))))
      (pss_one (ps_ret (pe_meth (pv 0) T.cl_Blocks T.m_Blocks_centre (ok_Blocks_centre T) (hr.mono (by decide)) T.b_Blocks_centre .nil pass0 (pa_cons (pv 1) (pa_cons (pv 2) pa_nil)))))), ?_⟩
    k_upd
    refine ⟨_, rfl, (n : Int), rfl, by omega, by omega, ?_⟩
    refine for_range (lo := 0) (n := ((n : Int)).toNat) (fun i σ H' => Same H H' ∧ ∃ x4 : Option V, σ = [some (.ref bo), some (.int ((l + 2 : Nat) : Int)), some (.int (iterBlk bs ss i b : Nat)), some (.int (n : Int)), x4] ∧ iterBlk bs ss i b < 2 ^ (1024 + 34 * i))
      ⟨fun _ _ e => e, _, rfl, hb⟩ ?_ ?_
    · rintro i σ H1 hi ⟨sm, x4, rfl, lt⟩
      obtain ⟨dx, ru, fl, h1, h2, h3⟩ := hB.up sm
      refine ⟨_, rfl, _, rfl, bo, _, _, _, _, rfl, h1, T.cl_Blocks, T.na_Blocks__rule, rfl, ru, iterBlk bs ss i b, 1024 + 34 * i, bs, ss, rfl, lt, by omega, h3, fun z m => ?_, g2, fun H2 e2 => ?_⟩
      · have := g1 z m
        omega
      · exact ⟨sm.trans e2, _, rfl, by
          have := nextBlk_lt g1 g2 lt
          rw [show 1024 + 34 * (i + 1) = 1024 + 34 * i + 34 by omega]
          exact this⟩
    · rintro σ H1 ⟨sm, x4, rfl, lt⟩
      have hB1 := (hB.up sm).at
      obtain ⟨dx, ru, fl, h1, h2⟩ := id hB1
      refine ⟨_, rfl, bo, _, _, rfl, h1, rfl, _, rfl, _, rfl, bo, l, _, hl, rfl, hB1, ?_⟩
      rw [Int.toNat_natCast]
      exact q H1 sm
end
end My
namespace My
open PySem PySem.Spec PyProof.Rows L2 Vx
open TL
local macro_rules | `(tactic| k_invariant "new" ($n, $H:ident, $e:ident, $h:ident)) => `(tactic| (generalize hE : upd _ _ _ = $H; obtain ⟨$e:ident, $h:ident⟩ := gen_e hE $n; clear hE))
local macro_rules | `(tactic| k_places) => `(tactic| first
  | assumption
  | exact lst_of (by assumption)
  | exact tup_of (by assumption)
  | (refine getS (by assumption) ?_; k_places)
  | (refine Same.seq (by assumption) ?_; k_places)
  | (refine tupS (by assumption) ?_; k_places)
  | (refine lst_of ?_; k_places)
  | (refine tup_of ?_; k_places))
local macro_rules | `(tactic| k_subL) => `(tactic| first
  | k_places
  | solve_by_elim (maxDepth := 10) [getS, lst_of, tup_of, Same.seq, tupS])
local macro_rules | `(tactic| k_offL) => `(tactic| first
  | (show (0 : Int) < _; first | omega | decide)
  | (refine ⟨?_, ?_⟩ <;> first | omega | decide)
  | exact .inr ⟨by decide, by decide⟩
  | exact .inl ⟨by decide, by decide⟩
  | exact .inl ⟨by omega, by omega⟩
  | omega)
local macro_rules | `(tactic| k_clsL) => `(tactic| exact Nat.le_of_ble_eq_true rfl)
local macro_rules | `(tactic| k_upd) => `(tactic| simp only [L2.start, List.map_cons, List.map_nil, List.length_cons, List.length_nil, List.replicate_succ, List.replicate_zero, List.cons_append, List.nil_append, List.set_cons_zero, List.set_cons_succ])
section
variable {P : Program} {w : World} {K : PySem.W.Frag} {mg : Str → Option Value} {base : Heap}
/-! ### what lies outside of some addresses -/
def hide (M : List Addr) (H : Hp) : Hp := fun b => if b ∈ M then none else H b
theorem hide_in {M : List Addr} {H : Hp} {b : Addr} (h : b ∈ M) : hide M H b = none := if_pos h
theorem hide_out {M : List Addr} {H : Hp} {b : Addr} (h : b ∉ M) : hide M H b = H b := if_neg h
theorem hide_le {M : List Addr} {H : Hp} : Same (hide M H) H := fun b o e => by
  by_cases h : b ∈ M
  · rw [hide_in h] at e
    cases e
  · rwa [hide_out h] at e
theorem hide_up {M : List Addr} {H H' : Hp} (e : Same H H') : Same (hide M H) (hide M H') := fun b o h => by
  by_cases c : b ∈ M
  · rw [hide_in c] at h
    cases h
  · rw [hide_out c] at h ⊢
    exact e _ _ h
theorem hide_upd {M : List Addr} {H : Hp} {b : Addr} {o : HO} (h : b ∈ M) : hide M (upd H b o) = hide M H := funext fun a => by
  by_cases c : a ∈ M
  · rw [hide_in c, hide_in c]
  · rw [hide_out c, hide_out c, upd_ne fun e => c (by rw [e]; exact h)]
theorem hide_updO {M : List Addr} {H : Hp} {b : Addr} {o : HO} (h : b ∉ M) : hide M (upd H b o) = upd (hide M H) b o := funext fun a => by
  by_cases c : a = b
  · subst c
    rw [hide_out h, upd_same, upd_same]
  · rw [upd_ne c]
    by_cases d : a ∈ M
    · rw [hide_in d, hide_in d]
    · rw [hide_out d, hide_out d, upd_ne c]
/-! ### squares of any level, told by what lives in them -/
structure Ent where
  l : Nat
  b : Nat
  c : Nat
  p : List Nat
  L : Int → Int → Bool
def blL (b : Nat) : Int → Int → Bool := fun r c => decide (0 ≤ r ∧ r < 32 ∧ 0 ≤ c ∧ c < 32) && b.testBit (r.toNat * 32 + c.toNat)
def quadL (h : Int) (A B C D : Int → Int → Bool) : Int → Int → Bool := fun r c => if r < h then (if c < h then A r c else B r (c - h)) else (if c < h then C (r - h) c else D (r - h) (c - h))
def Supp (l : Nat) (L : Int → Int → Bool) : Prop := ∀ r c, L r c = true → 0 ≤ r ∧ r < ((2 ^ l : Nat) : Int) ∧ 0 ≤ c ∧ c < ((2 ^ l : Nat) : Int)
def Quad (G : List Ent) (e : Ent) : Prop := ∃ (a b c d : Nat) (ea eb ec ed : Ent), e.p = [a, b, c, d] ∧ G[a]? = some ea ∧ G[b]? = some eb ∧ G[c]? = some ec ∧ G[d]? = some ed ∧ ea.l + 1 = e.l ∧ eb.l + 1 = e.l ∧ ec.l + 1 = e.l ∧ ed.l + 1 = e.l ∧ e.L = quadL ((2 ^ ea.l : Nat) : Int) ea.L eb.L ec.L ed.L
structure EntOk (G : List Ent) (e : Ent) : Prop where
  supp : Supp e.l e.L
  cnt : e.c = 0 ↔ ∀ r c, e.L r c = false
  small : e.l ≤ 5 → Fit e.l e.b ∧ e.L = blL e.b
  large : 6 ≤ e.l → Quad G e
theorem preG {α : Type} {l m : List α} (h : l <+: m) {n : Nat} {x : α} (e : l[n]? = some x) : m[n]? = some x := by
  obtain ⟨r, rfl⟩ := h
  rw [List.getElem?_append_left (List.getElem?_eq_some_iff.mp e).1]
  exact e
theorem Quad.up {G G' : List Ent} {e : Ent} (h : Quad G e) (p : G <+: G') : Quad G' e := by
  obtain ⟨a, b, c, d, ea, eb, ec, ed, h1, h2, h3, h4, h5, h6⟩ := h
  exact ⟨a, b, c, d, ea, eb, ec, ed, h1, preG p h2, preG p h3, preG p h4, preG p h5, h6⟩
theorem EntOk.up {G G' : List Ent} {e : Ent} (h : EntOk G e) (p : G <+: G') : EntOk G' e := ⟨h.supp, h.cnt, h.small, fun l => (h.large l).up p⟩
/-- what a future shows of a square of level l -/
def FutL (bs ss : List Int) (l j : Nat) (L L' : Int → Int → Bool) : Prop := ∀ r c : Int, 0 ≤ r → r < ((2 ^ (l - 1) : Nat) : Int) → 0 ≤ c → c < ((2 ^ (l - 1) : Nat) : Int) → L' r c = genL bs ss L (2 ^ j) (r + ((2 ^ (l - 2) : Nat) : Int)) (c + ((2 ^ (l - 2) : Nat) : Int))
def FutR (bs ss : List Int) (G : List Ent) (n j m : Nat) : Prop := ∃ e e', G[n]? = some e ∧ G[m]? = some e' ∧ e'.l + 1 = e.l ∧ j + 2 ≤ e.l ∧ FutL bs ss e.l j e.L e'.L
theorem FutR.up {bs ss : List Int} {G G' : List Ent} {n j m : Nat} (h : FutR bs ss G n j m) (p : G <+: G') : FutR bs ss G' n j m := by
  obtain ⟨e, e', h1, h2, h3⟩ := h
  exact ⟨e, e', preG p h1, preG p h2, h3⟩
/-! ### the store -/
def sf (ru bo la ca ba pa sm lg em fu : Addr) : List (Str × V) := putF "_futures" (.ref fu) (putF "_empty" (.ref em) (putF "_large" (.ref lg) (putF "_small" (.ref sm) (putF "_parts" (.ref pa) (putF "_bits" (.ref ba) (putF "_counts" (.ref ca) (putF "_levels" (.ref la) (putF "_blocks" (.ref bo) (putF "_rule" (.ref ru) [])))))))))
structure GA where
  st : Addr
  bo : Addr
  la : Addr
  ca : Addr
  ba : Addr
  pa : Addr
  sm : Addr
  lg : Addr
  em : Addr
  fu : Addr
  mn : Nat
def GA.M (A : GA) : List Addr := [A.la, A.ca, A.ba, A.pa, A.sm, A.lg, A.em, A.fu]
def key4 (a b c d : Nat) : List L2.Key := [Sum.inl (a : Int), Sum.inl (b : Int), Sum.inl (c : Int), Sum.inl (d : Int)]
def lvG (G : List Ent) : List V := G.map fun e => .int (e.l : Nat)
def ctG (G : List Ent) : List V := G.map fun e => .int (e.c : Nat)
def btG (G : List Ent) : List V := G.map fun e => .int (e.b : Nat)
def intL (l : List Nat) : List V := l.map fun (n : Nat) => V.int (n : Int)
structure GS (C CB CR : Addr) (bs ss : List Int) (H : Hp) (A : GA) (G : List Ent) (S : Nat) : Prop where
  obj : ∃ dx ru, hide A.M H A.st = some (.ins C dx (sf ru A.bo A.la A.ca A.ba A.pa A.sm A.lg A.em A.fu))
  blk : BlkR CB CR (hide A.M H) A.bo bs ss
  lv : H A.la = some (.lst (lvG G))
  ct : H A.ca = some (.lst (ctG G))
  bt : H A.ba = some (.lst (btG G))
  pt : ∃ us : List V, H A.pa = some (.lst us) ∧ us.length = G.length ∧ ∀ (i : Nat) (e : Ent), G[i]? = some e → 6 ≤ e.l → ∃ t, us[i]? = some (.ref t) ∧ hide A.M H t = some (.tup (intL e.p))
  sm : ∃ kvs, H A.sm = some (.dT kvs) ∧ kvs.length ≤ S ∧ ∀ (x : Pr) (v : V), valV kvs (keyP x) = some v → ∃ (n : Nat) (e : Ent), v = .int (n : Int) ∧ G[n]? = some e ∧ e.l ≤ 5 ∧ x = ((e.l : Int), (e.b : Int))
  lg : ∃ kvs, H A.lg = some (.dT kvs) ∧ kvs.length ≤ S ∧ ∀ (a b c d : Nat) (v : V), valV kvs (key4 a b c d) = some v → ∃ (n : Nat) (e : Ent), v = .int (n : Int) ∧ G[n]? = some e ∧ 6 ≤ e.l ∧ e.p = [a, b, c, d]
  em : ∃ es : List Nat, H A.em = some (.lst (intL es)) ∧ A.mn ≤ es.length ∧ es.length ≤ 20 ∧ ∀ (i n : Nat), es[i]? = some n → ∃ e, G[n]? = some e ∧ e.l = i ∧ ∀ r c, e.L r c = false
  fu : ∃ kvs, H A.fu = some (.dT kvs) ∧ kvs.length ≤ S ∧ ∀ (n j : Nat) (v : V), valV kvs (keyP ((n : Int), (j : Int))) = some v → ∃ m : Nat, v = .int (m : Int) ∧ FutR bs ss G n j m
  wf : ∀ (i : Nat) (e : Ent), G[i]? = some e → EntOk G e
  sz : G.length ≤ S
  nd : (A.st :: A.M).Nodup
section
variable {C CB CR : Addr} {bs ss : List Int} {H H' H'' : Hp} {A : GA} {G G' G'' : List Ent} {S S' k k' : Nat}
theorem GS.more (h : GS C CB CR bs ss H A G S) (l : S ≤ S') : GS C CB CR bs ss H A G S' := by
  obtain ⟨h1, h2, h3, h4, h5, h6, ⟨k1, a1, a2, a3⟩, ⟨k2, b1, b2, b3⟩, h9, ⟨k3, c1, c2, c3⟩, h11, h12, h13⟩ := h
  exact ⟨h1, h2, h3, h4, h5, h6, ⟨k1, a1, by omega, a3⟩, ⟨k2, b1, by omega, b3⟩, h9, ⟨k3, c1, by omega, c3⟩, h11, by omega, h13⟩
theorem GS.up (e : Same H H') (h : GS C CB CR bs ss H A G S) : GS C CB CR bs ss H' A G S := by
  obtain ⟨⟨dx, ru, h1⟩, h2, h3, h4, h5, ⟨us, p1, p2, p3⟩, ⟨k1, a1, a2, a3⟩, ⟨k2, b1, b2, b3⟩, ⟨es, d1, d2⟩, ⟨k3, c1, c2, c3⟩, h11, h12, h13⟩ := h
  exact ⟨⟨dx, ru, hide_up e _ _ h1⟩, h2.up (hide_up e), e _ _ h3, e _ _ h4, e _ _ h5, ⟨us, e _ _ p1, p2, fun i u hi hl => by
    obtain ⟨t, t1, t2⟩ := p3 i u hi hl
    exact ⟨t, t1, hide_up e _ _ t2⟩⟩, ⟨k1, e _ _ a1, a2, a3⟩, ⟨k2, e _ _ b1, b2, b3⟩, ⟨es, e _ _ d1, d2⟩, ⟨k3, e _ _ c1, c2, c3⟩, h11, h12, h13⟩
theorem GS.off (h : GS C CB CR bs ss H A G S) {p : Addr} (n : H p = none) : p ∉ A.M := fun m => by
  have no : ∀ {b : Addr} {o : HO}, H b = some o → p ≠ b := fun e z => by rw [z, e] at n; cases n
  obtain ⟨us, h6, _⟩ := h.pt
  obtain ⟨_, h7, _⟩ := h.sm
  obtain ⟨_, h8, _⟩ := h.lg
  obtain ⟨_, h9, _⟩ := h.em
  obtain ⟨_, h10, _⟩ := h.fu
  simp only [GA.M, List.mem_cons, List.not_mem_nil, or_false] at m
  rcases m with z | z | z | z | z | z | z | z
  · exact no h.lv z
  · exact no h.ct z
  · exact no h.bt z
  · exact no h6 z
  · exact no h7 z
  · exact no h8 z
  · exact no h9 z
  · exact no h10 z
theorem GS.ob (h : GS C CB CR bs ss H A G S) : ∃ dx ru, H A.st = some (.ins C dx (sf ru A.bo A.la A.ca A.ba A.pa A.sm A.lg A.em A.fu)) := by
  obtain ⟨dx, ru, h1⟩ := h.obj
  exact ⟨dx, ru, hide_le _ _ h1⟩
theorem lvG_at {n : Nat} {e : Ent} (h : G[n]? = some e) : atI (lvG G) (n : Int) = some (.int (e.l : Nat)) := atI_nat (by unfold lvG; rw [List.getElem?_map, h]; rfl)
theorem ctG_at {n : Nat} {e : Ent} (h : G[n]? = some e) : atI (ctG G) (n : Int) = some (.int (e.c : Nat)) := atI_nat (by unfold ctG; rw [List.getElem?_map, h]; rfl)
theorem btG_at {n : Nat} {e : Ent} (h : G[n]? = some e) : atI (btG G) (n : Int) = some (.int (e.b : Nat)) := atI_nat (by unfold btG; rw [List.getElem?_map, h]; rfl)
/-- what the dict of futures holds stays -/
def costN : Nat → Nat
  | 0 => 1
  | N + 1 => 13 * costN N + 220
def costF (l : Nat) : Nat := costN (l - 5) + 1
def FKeep (A : GA) (k : Nat) (G' : List Ent) (H H' : Hp) : Prop := ∀ kvs, H A.fu = some (.dT kvs) → ∃ kvs', H' A.fu = some (.dT kvs') ∧ (∀ k v, valV kvs k = some v → valV kvs' k = some v) ∧
  ∀ (n j : Nat) (v : V), valV kvs' (keyP ((n : Int), (j : Int))) = some v → valV kvs (keyP ((n : Int), (j : Int))) = some v ∨ ∃ e, G'[n]? = some e ∧ costF e.l ≤ k
theorem FKeep.of (h : ∀ o, H A.fu = some o → H' A.fu = some o) : FKeep A k G' H H' := fun kvs e => ⟨kvs, h _ e, fun _ _ h => h, fun _ _ _ h => .inl h⟩
theorem FKeep.refl : FKeep A k G' H H := .of fun _ h => h
theorem FKeep.trans (h : FKeep A k G' H H') (h' : FKeep A k' G'' H' H'') (pr : G' <+: G'') : FKeep A (k + k') G'' H H'' := fun kvs e => by
  obtain ⟨k1, e1, s1, n1⟩ := h kvs e
  obtain ⟨k2, e2, s2, n2⟩ := h' k1 e1
  refine ⟨k2, e2, fun k v z => s2 k v (s1 k v z), fun n j v z => ?_⟩
  rcases n2 n j v z with z | ⟨u, u1, u2⟩
  · rcases n1 n j v z with z | ⟨u, u1, u2⟩
    · exact .inl z
    · exact .inr ⟨u, preG pr u1, by omega⟩
  · exact .inr ⟨u, u1, by omega⟩
theorem FKeep.more (h : FKeep A k G' H H') (l : k ≤ k') : FKeep A k' G' H H' := fun kvs e => by
  obtain ⟨k1, e1, s1, n1⟩ := h kvs e
  refine ⟨k1, e1, s1, fun n j v z => (n1 n j v z).imp id ?_⟩
  rintro ⟨u, u1, u2⟩
  exact ⟨u, u1, by omega⟩
theorem FKeep.step (h : FKeep A k G' H H') (z : ∀ o, H' A.fu = some o → H'' A.fu = some o) : FKeep A k G' H H'' := fun kvs e => by
  obtain ⟨k1, e1, s1⟩ := h kvs e
  exact ⟨k1, z _ e1, s1⟩
theorem FKeep.pre {H0 : Hp} (z : ∀ o, H0 A.fu = some o → H A.fu = some o) (h : FKeep A k G' H H') : FKeep A k G' H0 H' := fun kvs e => h kvs (z _ e)
/-- the store grows: by k in size at most -/
structure Gg (C CB CR : Addr) (bs ss : List Int) (A : GA) (k : Nat) (H : Hp) (G : List Ent) (S : Nat) (H' : Hp) (G' : List Ent) : Prop where
  fr : Same (hide A.M H) (hide A.M H')
  st : GS C CB CR bs ss H' A G' (S + k)
  pre : G <+: G'
  fk : FKeep A k G' H H'
theorem Gg.refl (k : Nat) (h : GS C CB CR bs ss H A G S) : Gg C CB CR bs ss A k H G S H G := ⟨fun _ _ e => e, h.more (Nat.le_add_right _ _), List.prefix_rfl, .refl⟩
theorem Gg.trans (h : Gg C CB CR bs ss A k H G S H' G') (h' : Gg C CB CR bs ss A k' H' G' (S + k) H'' G'') : Gg C CB CR bs ss A (k + k') H G S H'' G'' :=
  ⟨h.fr.trans h'.fr, h'.st.more (by omega), h.pre.trans h'.pre, h.fk.trans h'.fk h'.pre⟩
theorem Gg.more (h : Gg C CB CR bs ss A k H G S H' G') (l : k ≤ k') : Gg C CB CR bs ss A k' H G S H' G' := ⟨h.fr, h.st.more (by omega), h.pre, h.fk.more l⟩
theorem Gg.same (h : Gg C CB CR bs ss A k H G S H' G') (e : Same H' H'') : Gg C CB CR bs ss A k H G S H'' G' := ⟨h.fr.trans (hide_up e), h.st.up e, h.pre, h.fk.step fun o z => e _ _ z⟩
theorem Gg.of_same {H0 : Hp} (e : Same H0 H) (h : Gg C CB CR bs ss A k H G S H' G') : Gg C CB CR bs ss A k H0 G S H' G' := ⟨(hide_up e).trans h.fr, h.st, h.pre, .pre (fun o z => e _ _ z) h.fk⟩
theorem Gg.fresh (h : Gg C CB CR bs ss A k H G S H' G') {b : Addr} {o : HO} (e : H b = some o) (n : b ∉ A.M) : H' b = some o := by
  have := h.fr b o (by rw [hide_out n]; exact e)
  rwa [hide_out n] at this
/-- a local object changed -/
theorem Gg.loc (h : Gg C CB CR bs ss A k H G S H' G') (hS : GS C CB CR bs ss H A G S) {D : Addr} {o : HO} (n : H D = none) (nt : ∀ xs, H' D ≠ some (.tup xs)) : Gg C CB CR bs ss A k H G S (upd H' D o) G' := by
  have dM := hS.off n
  have fr : Same (hide A.M H) (hide A.M (upd H' D o)) := fun b u e => by
    have e0 := hide_le _ _ e
    rw [hide_updO dM, upd_ne fun z => by rw [z, n] at e0; cases e0]
    exact h.fr b u e
  have off : ∀ {b : Addr}, b ∈ A.M → b ≠ D := fun m z => dM (z ▸ m)
  obtain ⟨dx0, ru0, ho0⟩ := hS.obj
  obtain ⟨_, h2, h3, h4, h5, ⟨us, p1, p2, p3⟩, ⟨k1, a1, a2, a3⟩, ⟨k2, b1, b2, b3⟩, ⟨es, d1, d2⟩, ⟨k3, c1, c2, c3⟩, h11, h12, h13⟩ := h.st
  have m : A.la ∈ A.M ∧ A.ca ∈ A.M ∧ A.ba ∈ A.M ∧ A.pa ∈ A.M ∧ A.sm ∈ A.M ∧ A.lg ∈ A.M ∧ A.em ∈ A.M ∧ A.fu ∈ A.M := by simp only [GA.M, List.mem_cons, true_or, or_true, and_self]
  obtain ⟨m1, m2, m3, m4, m5, m6, m7, m8⟩ := m
  refine ⟨fr, ⟨⟨dx0, ru0, fr _ _ ho0⟩, hS.blk.up fr, by rw [upd_ne (off m1)]; exact h3, by rw [upd_ne (off m2)]; exact h4, by rw [upd_ne (off m3)]; exact h5, ⟨us, by rw [upd_ne (off m4)]; exact p1, p2, fun i u hi hl => ?_⟩, ⟨k1, by rw [upd_ne (off m5)]; exact a1, a2, a3⟩, ⟨k2, by rw [upd_ne (off m6)]; exact b1, b2, b3⟩, ⟨es, by rw [upd_ne (off m7)]; exact d1, d2⟩, ⟨k3, by rw [upd_ne (off m8)]; exact c1, c2, c3⟩, h11, h12, h13⟩, h.pre, h.fk.step fun o z => by rw [upd_ne (off m8)]; exact z⟩
  obtain ⟨t, t1, t2⟩ := p3 i u hi hl
  refine ⟨t, t1, ?_⟩
  rw [hide_updO dM, upd_ne fun z => by rw [z] at t2; exact nt _ (hide_le _ _ t2)]
  exact t2
end
end
end My
namespace My
open PySem PySem.Spec PyProof.Rows L2 Vx
open TL
local macro_rules | `(tactic| k_invariant "new" ($n, $H:ident, $e:ident, $h:ident)) => `(tactic| (generalize hE : upd _ _ _ = $H; obtain ⟨$e:ident, $h:ident⟩ := gen_e hE $n; clear hE))
local macro_rules | `(tactic| k_places) => `(tactic| first
  | assumption
  | exact lst_of (by assumption)
  | exact tup_of (by assumption)
  | (refine getS (by assumption) ?_; k_places)
  | (refine Same.seq (by assumption) ?_; k_places)
  | (refine tupS (by assumption) ?_; k_places)
  | (refine lst_of ?_; k_places)
  | (refine tup_of ?_; k_places))
local macro_rules | `(tactic| k_subL) => `(tactic| first
  | k_places
  | solve_by_elim (maxDepth := 10) [getS, lst_of, tup_of, Same.seq, tupS])
local macro_rules | `(tactic| k_offL) => `(tactic| first
  | (show (0 : Int) < _; first | omega | decide)
  | (refine ⟨?_, ?_⟩ <;> first | omega | decide)
  | exact .inr ⟨by decide, by decide⟩
  | exact .inl ⟨by decide, by decide⟩
  | exact .inl ⟨by omega, by omega⟩
  | omega)
local macro_rules | `(tactic| k_clsL) => `(tactic| exact Nat.le_of_ble_eq_true rfl)
local macro_rules | `(tactic| k_upd) => `(tactic| simp only [L2.start, List.map_cons, List.map_nil, List.length_cons, List.length_nil, List.replicate_succ, List.replicate_zero, List.cons_append, List.nil_append, List.set_cons_zero, List.set_cons_succ])
section
variable {P : Program} {w : World} {K : PySem.W.Frag} {mg : Str → Option Value} {base : Heap}
def sp_new_square (C : Addr) : Sp := fun vs H Q _ => ∃ (A : GA) (ls cs bs us : List V) (l c b : Int) (v : V), vs = [.ref A.st, .int l, .int c, .int b, v] ∧
  (∃ dx ru, H A.st = some (.ins C dx (sf ru A.bo A.la A.ca A.ba A.pa A.sm A.lg A.em A.fu))) ∧ H A.la = some (.lst ls) ∧ H A.ca = some (.lst cs) ∧ H A.ba = some (.lst bs) ∧ H A.pa = some (.lst us) ∧
  (A.st :: A.M).Nodup ∧ ls.length < 10000000 ∧ cs.length < 10000000 ∧ bs.length < 10000000 ∧ us.length < 10000000 ∧
  Q (.int (ls.length : Nat)) (upd (upd (upd (upd H A.la (.lst (ls ++ [.int l]))) A.ca (.lst (cs ++ [.int c]))) A.ba (.lst (bs ++ [.int b]))) A.pa (.lst (us ++ [v])))
theorem ok_Store_new_square (T : Txt K mg) : FnOk P w K mg base CX0 1 T.f_Store_new_square T.d_Store_new_square ["self", "level", "count", "block", "parts"] (sp_new_square T.C_Store) := by
  refine T.F_Store_new_square.ok sc_Store_new_square (fun vs H Q E h => ?_) (fun cdv A outer s H vs Q E hr h => ?_)
  · obtain ⟨_, _, _, _, _, _, _, _, _, rfl, _⟩ := h
    rfl
  · obtain ⟨S, ls, cs, bs, us, l, c, b, v, rfl, ⟨dx, ru, ho⟩, h1, h2, h3, h4, nd, l1, l2, l3, l4, q⟩ := h
    refine ⟨_, (pss_cons (ps_expr (pe_bm PySem.F.plainAttrs_list PySem.F.slot_list_append PySem.F.type_list_append mt_append (pe_fld (pv 0) rfl) (pa_cons (pv 1) pa_nil)))
      (pss_cons (ps_expr (pe_bm PySem.F.plainAttrs_list PySem.F.slot_list_append PySem.F.type_list_append mt_append (pe_fld (pv 0) rfl) (pa_cons (pv 2) pa_nil)))
      (pss_cons (ps_expr (pe_bm PySem.F.plainAttrs_list PySem.F.slot_list_append PySem.F.type_list_append mt_append (pe_fld (pv 0) rfl) (pa_cons (pv 3) pa_nil)))
      (pss_cons (ps_expr (pe_bm PySem.F.plainAttrs_list PySem.F.slot_list_append PySem.F.type_list_append mt_append (pe_fld (pv 0) rfl) (pa_cons (pv 4) pa_nil)))
      (pss_one (ps_ret (pe_op op_sub (pe_callB call_lenL (by rfl) T.z_len (by decide +kernel) (pa_cons (pe_fld (pv 0) rfl) pa_nil)) pe_int))))))), ?_⟩
    k_upd
    have ne : ∀ {x y : Addr}, x ≠ y → y ≠ x := fun h => h.symm
    simp only [GA.M, List.nodup_cons, List.mem_cons, List.not_mem_nil, or_false, not_or] at nd
    obtain ⟨⟨n1, n2, n3, n4, n5, n6, n7, n8⟩, ⟨m1, m2, m3, m4, m5, m6, m7⟩, ⟨o1, o2, o3, o4, o5, o6⟩, ⟨p1, p2, p3, p4, p5⟩, ⟨q1, q2, q3, q4⟩, ⟨r1, r2, r3⟩, ⟨t1, t2⟩, u1, _⟩ := nd
    refine ⟨_, rfl, S.st, _, _, _, _, rfl, ho, T.cl_Store, T.na_Store__levels, rfl, .inl ⟨rfl, _, lst_of h1⟩, _, rfl, _, _, _, rfl, rfl, h1, by rw [sizeLine_eq]; omega, ?_⟩
    have ho1 : upd H S.la (.lst (ls ++ [.int l])) S.st = some (.ins T.C_Store dx (sf ru S.bo S.la S.ca S.ba S.pa S.sm S.lg S.em S.fu)) := by rw [upd_ne n1]; exact ho
    have k2 : upd H S.la (.lst (ls ++ [.int l])) S.ca = some (.lst cs) := by rw [upd_ne (ne m1)]; exact h2
    have k3 : upd H S.la (.lst (ls ++ [.int l])) S.ba = some (.lst bs) := by rw [upd_ne (ne m2)]; exact h3
    have k4 : upd H S.la (.lst (ls ++ [.int l])) S.pa = some (.lst us) := by rw [upd_ne (ne m3)]; exact h4
    have k1 : upd H S.la (.lst (ls ++ [.int l])) S.la = some (.lst (ls ++ [.int l])) := upd_same
    obtain ⟨H1, e1⟩ : ∃ H1, H1 = upd H S.la (.lst (ls ++ [.int l])) := ⟨_, rfl⟩
    rw [← e1] at ho1 k1 k2 k3 k4 q ⊢
    refine ⟨_, rfl, S.st, _, _, _, _, rfl, ho1, T.cl_Store, T.na_Store__counts, rfl, .inl ⟨rfl, _, lst_of k2⟩, _, rfl, _, _, _, rfl, rfl, k2, by rw [sizeLine_eq]; omega, ?_⟩
    have ho2 : upd H1 S.ca (.lst (cs ++ [.int c])) S.st = some (.ins T.C_Store dx (sf ru S.bo S.la S.ca S.ba S.pa S.sm S.lg S.em S.fu)) := by rw [upd_ne n2]; exact ho1
    have j1 : upd H1 S.ca (.lst (cs ++ [.int c])) S.la = some (.lst (ls ++ [.int l])) := by rw [upd_ne m1]; exact k1
    have j3 : upd H1 S.ca (.lst (cs ++ [.int c])) S.ba = some (.lst bs) := by rw [upd_ne (ne o1)]; exact k3
    have j4 : upd H1 S.ca (.lst (cs ++ [.int c])) S.pa = some (.lst us) := by rw [upd_ne (ne o2)]; exact k4
    obtain ⟨H2, e2⟩ : ∃ H2, H2 = upd H1 S.ca (.lst (cs ++ [.int c])) := ⟨_, rfl⟩
    rw [← e2] at ho2 j1 j3 j4 q ⊢
    refine ⟨_, rfl, S.st, _, _, _, _, rfl, ho2, T.cl_Store, T.na_Store__bits, rfl, .inl ⟨rfl, _, lst_of j3⟩, _, rfl, _, _, _, rfl, rfl, j3, by rw [sizeLine_eq]; omega, ?_⟩
    have ho3 : upd H2 S.ba (.lst (bs ++ [.int b])) S.st = some (.ins T.C_Store dx (sf ru S.bo S.la S.ca S.ba S.pa S.sm S.lg S.em S.fu)) := by rw [upd_ne n3]; exact ho2
    have i1 : upd H2 S.ba (.lst (bs ++ [.int b])) S.la = some (.lst (ls ++ [.int l])) := by rw [upd_ne m2]; exact j1
    have i4 : upd H2 S.ba (.lst (bs ++ [.int b])) S.pa = some (.lst us) := by rw [upd_ne (ne p1)]; exact j4
    obtain ⟨H3, e3⟩ : ∃ H3, H3 = upd H2 S.ba (.lst (bs ++ [.int b])) := ⟨_, rfl⟩
    rw [← e3] at ho3 i1 i4 q ⊢
    refine ⟨_, rfl, S.st, _, _, _, _, rfl, ho3, T.cl_Store, T.na_Store__parts, rfl, .inl ⟨rfl, _, lst_of i4⟩, _, rfl, _, _, _, rfl, rfl, i4, by rw [sizeLine_eq]; omega, ?_⟩
    have ho4 : upd H3 S.pa (.lst (us ++ [v])) S.st = some (.ins T.C_Store dx (sf ru S.bo S.la S.ca S.ba S.pa S.sm S.lg S.em S.fu)) := by rw [upd_ne n4]; exact ho3
    have f1 : upd H3 S.pa (.lst (us ++ [v])) S.la = some (.lst (ls ++ [.int l])) := by rw [upd_ne m3]; exact i1
    obtain ⟨H4, e4⟩ : ∃ H4, H4 = upd H3 S.pa (.lst (us ++ [v])) := ⟨_, rfl⟩
    rw [← e4] at ho4 f1 q ⊢
    refine ⟨_, rfl, S.st, _, _, _, _, rfl, ho4, T.cl_Store, T.na_Store__levels, rfl, _, _, rfl, lst_of f1, _, _, rfl, rfl, ?_⟩
    dsimp only
    rw [List.length_append, List.length_singleton, show ((ls.length + 1 : Nat) : Int) - 1 = ((ls.length : Nat) : Int) by omega]
    exact q
theorem blL_supp {l b : Nat} (hl : l < 6) (hf : Fit l b) : Supp l (blL b) := fun r c h => by
  unfold blL at h
  obtain ⟨h1, h2⟩ := Bool.and_eq_true_iff.mp h
  have h1 := of_decide_eq_true h1
  have h3 := hf _ h2
  have e1 : (r.toNat * 32 + c.toNat) / 32 = r.toNat := by omega
  have e2 : (r.toNat * 32 + c.toNat) % 32 = c.toNat := by omega
  rw [e1, e2] at h3
  generalize 2 ^ l = p at *
  omega
theorem popN_zero {b : Nat} (h : b < 2 ^ 1024) : popN b = 0 ↔ b = 0 := by
  constructor
  · intro e
    refine Nat.eq_of_testBit_eq fun i => ?_
    rw [Nat.zero_testBit]
    cases t : b.testBit i with
    | false => rfl
    | true =>
      have hi : i < 1024 := Classical.byContradiction fun c => by
        rw [Nat.testBit_lt_two_pow (Nat.lt_of_lt_of_le h (Nat.pow_le_pow_right (by decide) (by omega)))] at t
        cases t
      have m := mem_cellsN.mpr ⟨hi, t⟩
      have l0 : cellsN b = [] := List.length_eq_zero_iff.mp ((cellsN_len b).trans e)
      rw [l0] at m
      cases m
  · intro e
    rw [e, ← cellsN_len]
    refine List.length_eq_zero_iff.mpr (List.eq_nil_iff_forall_not_mem.mpr fun x m => ?_)
    unfold cellsN at m
    obtain ⟨i, m, _⟩ := List.mem_map.mp m
    have := (mem_bitsB.mp m).2
    rw [Nat.zero_testBit] at this
    cases this
theorem blL_zero {l b : Nat} (hl : l < 6) (hf : Fit l b) : popN b = 0 ↔ ∀ r c, blL b r c = false := by
  rw [popN_zero (fit_lt hl hf)]
  constructor
  · intro e r c
    unfold blL
    rw [e, Nat.zero_testBit, Bool.and_false]
  · intro h
    refine Nat.eq_of_testBit_eq fun i => ?_
    rw [Nat.zero_testBit]
    cases t : b.testBit i with
    | false => rfl
    | true =>
      have hi := fit_small hl hf i t
      have := h ((i / 32 : Nat) : Int) ((i % 32 : Nat) : Int)
      unfold blL at this
      rw [decide_eq_true (by omega), Bool.true_and, Int.toNat_natCast, Int.toNat_natCast, show i / 32 * 32 + i % 32 = i by omega, t] at this
      cases this
def smallE (l b : Nat) : Ent := ⟨l, b, popN b, [], blL b⟩
theorem smallE_ok {G : List Ent} {l b : Nat} (hl : l < 6) (hf : Fit l b) : EntOk G (smallE l b) := ⟨blL_supp hl hf, blL_zero hl hf, fun _ => ⟨hf, rfl⟩, fun h => absurd h (by show ¬ 6 ≤ l; omega)⟩
section
variable {C CB CR : Addr} {bs ss : List Int} {H H' : Hp} {A : GA} {G : List Ent} {S : Nat}
theorem GS.grow (h : GS C CB CR bs ss H A G S) (e : Ent) (ok : EntOk (G ++ [e]) e) {us : List V} {v : V} {k1 k2 : List (List L2.Key × V)} (h1 : ∀ a, a ∉ A.M → H' a = H a) (g1 : H' A.la = some (.lst (lvG G ++ [.int (e.l : Nat)]))) (g2 : H' A.ca = some (.lst (ctG G ++ [.int (e.c : Nat)]))) (g3 : H' A.ba = some (.lst (btG G ++ [.int (e.b : Nat)])))
    (g0 : H A.pa = some (.lst us)) (g4 : H' A.pa = some (.lst (us ++ [v]))) (tv : 6 ≤ e.l → ∃ t, v = .ref t ∧ hide A.M H t = some (.tup (intL e.p)))
    (g5 : H' A.sm = some (.dT k1)) (l5 : k1.length ≤ S + 1) (s5 : ∀ (x : Pr) (v : V), valV k1 (keyP x) = some v → ∃ (n : Nat) (u : Ent), v = .int (n : Int) ∧ (G ++ [e])[n]? = some u ∧ u.l ≤ 5 ∧ x = ((u.l : Int), (u.b : Int)))
    (g6 : H' A.lg = some (.dT k2)) (l6 : k2.length ≤ S + 1) (s6 : ∀ (a b c d : Nat) (v : V), valV k2 (key4 a b c d) = some v → ∃ (n : Nat) (u : Ent), v = .int (n : Int) ∧ (G ++ [e])[n]? = some u ∧ 6 ≤ u.l ∧ u.p = [a, b, c, d])
    (g7 : H' A.em = H A.em) (g8 : H' A.fu = H A.fu) : GS C CB CR bs ss H' A (G ++ [e]) (S + 1) := by
  have same : Same (hide A.M H) (hide A.M H') := fun a o e => by
    by_cases c : a ∈ A.M
    · rw [hide_in c] at e
      cases e
    · rw [hide_out c] at e ⊢
      rw [h1 a c]
      exact e
  have pr : G <+: G ++ [e] := ⟨_, rfl⟩
  obtain ⟨dx, ru, ho⟩ := h.obj
  obtain ⟨us', p1, p2, p3⟩ := h.pt
  obtain rfl : us' = us := by
    rw [p1] at g0
    injection Option.some.inj g0
  obtain ⟨es, d1, d2, d3, d4⟩ := h.em
  obtain ⟨k3, c1, c2, c3⟩ := h.fu
  refine ⟨⟨dx, ru, same _ _ ho⟩, h.blk.up same, ?_, ?_, ?_, ⟨us' ++ [v], g4, by rw [List.length_append, List.length_append, p2]; rfl, fun i u hi hl => ?_⟩, ⟨k1, g5, l5, s5⟩, ⟨k2, g6, l6, s6⟩, ⟨es, by rw [g7]; exact d1, d2, d3, fun i n hn => ?_⟩, ⟨k3, by rw [g8]; exact c1, by omega, fun n j v hv => ?_⟩, fun i u hi => ?_, by rw [List.length_append]; exact Nat.add_le_add_right h.sz 1, h.nd⟩
  · rw [g1]
    unfold lvG
    rw [List.map_append]
    rfl
  · rw [g2]
    unfold ctG
    rw [List.map_append]
    rfl
  · rw [g3]
    unfold btG
    rw [List.map_append]
    rfl
  · by_cases c : i < G.length
    · rw [List.getElem?_append_left c] at hi
      obtain ⟨t, t1, t2⟩ := p3 i u hi hl
      refine ⟨t, ?_, same _ _ t2⟩
      rw [List.getElem?_append_left (by omega)]
      exact t1
    · have li := (List.getElem?_eq_some_iff.mp hi).1
      rw [List.length_append, List.length_singleton] at li
      obtain rfl : i = G.length := by omega
      rw [List.getElem?_append_right (Nat.le_refl _), Nat.sub_self] at hi
      obtain rfl : e = u := Option.some.inj hi
      obtain ⟨t, t1, t2⟩ := tv hl
      refine ⟨t, ?_, same _ _ t2⟩
      rw [List.getElem?_append_right (by omega), p2, Nat.sub_self, t1]
      rfl
  · obtain ⟨u, u1, u2⟩ := d4 i n hn
    exact ⟨u, preG pr u1, u2⟩
  · obtain ⟨m, m1, m2⟩ := c3 n j v hv
    exact ⟨m, m1, m2.up pr⟩
  · by_cases c : i < G.length
    · rw [List.getElem?_append_left c] at hi
      exact (h.wf i u hi).up pr
    · have li := (List.getElem?_eq_some_iff.mp hi).1
      rw [List.length_append, List.length_singleton] at li
      obtain rfl : i = G.length := by omega
      rw [List.getElem?_append_right (Nat.le_refl _), Nat.sub_self] at hi
      obtain rfl : e = u := Option.some.inj hi
      exact ok
theorem updG4 (h : GS C CB CR bs ss H A G S) {ls cs ks us : List V} {H3 : Hp} (e : H3 = upd (upd (upd (upd H A.la (.lst ls)) A.ca (.lst cs)) A.ba (.lst ks)) A.pa (.lst us)) :
    (∀ a, a ∉ A.M → H3 a = H a) ∧ H3 A.la = some (.lst ls) ∧ H3 A.ca = some (.lst cs) ∧ H3 A.ba = some (.lst ks) ∧ H3 A.pa = some (.lst us) ∧ H3 A.sm = H A.sm ∧ H3 A.lg = H A.lg ∧ H3 A.em = H A.em ∧ H3 A.fu = H A.fu ∧
      A.la ≠ A.sm ∧ A.ca ≠ A.sm ∧ A.ba ≠ A.sm ∧ A.pa ≠ A.sm ∧ A.lg ≠ A.sm ∧ A.em ≠ A.sm ∧ A.fu ≠ A.sm ∧ A.la ≠ A.lg ∧ A.ca ≠ A.lg ∧ A.ba ≠ A.lg ∧ A.pa ≠ A.lg ∧ A.em ≠ A.lg ∧ A.fu ≠ A.lg ∧ A.sm ∈ A.M ∧ A.lg ∈ A.M := by
  have nd := h.nd
  have ne : ∀ {x y : Addr}, x ≠ y → y ≠ x := fun h => h.symm
  simp only [GA.M, List.nodup_cons, List.mem_cons, List.not_mem_nil, or_false, not_or] at nd
  obtain ⟨⟨n1, n2, n3, n4, n5, n6, n7, n8⟩, ⟨m1, m2, m3, m4, m5, m6, m7⟩, ⟨o1, o2, o3, o4, o5, o6⟩, ⟨p1, p2, p3, p4, p5⟩, ⟨q1, q2, q3, q4⟩, ⟨r1, r2, r3⟩, ⟨t1, t2⟩, u1, _⟩ := nd
  subst e
  refine ⟨fun a c => ?_, ?_, ?_, ?_, ?_, ?_, ?_, ?_, ?_, m4, o3, p2, q1, ne r1, ne r2, ne r3, m5, o4, p3, q2, ne t1, ne t2, ?_, ?_⟩
  · simp only [GA.M, List.mem_cons, List.not_mem_nil, or_false, not_or] at c
    obtain ⟨c1, c2, c3, c4, _⟩ := c
    rw [upd_ne c4, upd_ne c3, upd_ne c2, upd_ne c1]
  · rw [upd_ne m3, upd_ne m2, upd_ne m1, upd_same]
  · rw [upd_ne o2, upd_ne o1, upd_same]
  · rw [upd_ne p1, upd_same]
  · rw [upd_same]
  · rw [upd_ne (ne q1), upd_ne (ne p2), upd_ne (ne o3), upd_ne (ne m4)]
  · rw [upd_ne (ne q2), upd_ne (ne p3), upd_ne (ne o4), upd_ne (ne m5)]
  · rw [upd_ne (ne q3), upd_ne (ne p4), upd_ne (ne o5), upd_ne (ne m6)]
  · rw [upd_ne (ne q4), upd_ne (ne p5), upd_ne (ne o6), upd_ne (ne m7)]
  · simp only [GA.M, List.mem_cons, true_or, or_true]
  · simp only [GA.M, List.mem_cons, true_or, or_true]
end
def sp_small (C CB CR : Addr) : Sp := fun vs H Q _ => ∃ (A : GA) (G : List Ent) (S l b : Nat) (bs ss : List Int), vs = [.ref A.st, .int (l : Int), .int (b : Int)] ∧ GS C CB CR bs ss H A G S ∧ l < 6 ∧ Fit l b ∧ S < 9000000 ∧
  ∀ (H' : Hp) (G' : List Ent) (n : Nat) (e : Ent), Gg C CB CR bs ss A 1 H G S H' G' → G'[n]? = some e → e.l = l → e.b = b → e.L = blL b → (∀ o, H A.em = some o → H' A.em = some o) → Q (.int (n : Int)) H'
theorem ok_Store_small (T : Txt K mg) : FnOk P w K mg base CX0 2 T.f_Store_small T.d_Store_small ["self", "level", "block"] (sp_small T.C_Store T.C_Blocks T.C_Rule) := by
  refine T.F_Store_small.ok sc_Store_small (fun vs H Q E h => ?_) (fun cdv A outer s H vs Q E hr h => ?_)
  · obtain ⟨_, _, _, _, _, _, _, rfl, _⟩ := h
    rfl
  · obtain ⟨S, G, Z, l, b, bs, ss, rfl, hS, hl, hf, few, q⟩ := h
    have hu : (A.deeper (envOfC (Str.ofString "Store.small") (defScope s_Store_small) s.heap.objs.size T.f_Store_small cdv)).units + 1 < cLine := by
      have := hr.units
      omega
    refine ⟨_, (pss_cons (ps_set (i := 3) sc_Store_small.nd rfl (.inl rfl) (pe_tup (pa_cons (pv 1) (pa_cons (pv 2) pa_nil))))
      (pss_cons (ps_if (pt_cmp (pc_dnotin hu (pv 3) (pe_fld (pv 0) rfl)))
      (pss_one (ps_dput hu (pe_fld (pv 0) rfl) (pv 3) (pe_meth (pv 0) T.cl_Store T.m_Store_new_square (ok_Store_new_square T) (hr.mono (by decide)) T.b_Store_new_square .nil pass0 (pa_cons (pv 1) (pa_cons (pe_call (ok_block_count T) (hr.mono (by decide)) (by rfl) T.g_block_count T.F_block_count.kp T.b_block_count .nil pass0 (pa_cons (pv 2) pa_nil)) (pa_cons (pv 2) (pa_cons (pe_tup pa_nil) pa_nil))))) rfl))
      pss_nil)
      (pss_one (ps_ret (pe_dget hu (pe_fld (pv 0) rfl) (pv 3) (fun _ _ => rfl)))))), ?_⟩
    k_upd
    refine ⟨_, rfl, _, rfl, by k_clsL, fun kp nk => ?_⟩
    k_invariant "new" (nk, H1, e1, g1)
    k_upd
    have hS1 := hS.up e1
    obtain ⟨dx, ru, ho⟩ := hS1.ob
    obtain ⟨kvs, hk, lk, sk⟩ := hS1.sm
    have dg : DGet H1 S.sm (.ref kp) (valV kvs (keyP ((l : Int), (b : Int)))) := .t (k := keyP ((l : Int), (b : Int))) hk g1
    cases hv : valV kvs (keyP ((l : Int), (b : Int))) with
    | some v =>
      rw [hv] at dg
      refine ⟨_, rfl, _, rfl, S.st, _, _, _, _, rfl, ho, T.cl_Store, T.na_Store__small, rfl, ?_⟩
      refine ⟨_, _, rfl, dg, false, rfl, iteF ?_⟩
      k_upd
      refine ⟨_, rfl, S.st, _, _, _, _, rfl, ho, T.cl_Store, T.na_Store__small, rfl, _, rfl, S.sm, _, rfl, dg, ?_⟩
      obtain ⟨n, e, rfl, en, el, ex⟩ := sk _ _ hv
      injection ex with z1 z2
      have z1 := Int.ofNat.inj z1
      have z2 := Int.ofNat.inj z2
      subst z1 z2
      exact q H1 G n e ((Gg.refl 1 hS).same e1) en rfl rfl ((hS.wf n e en).small el).2 fun o h => e1 _ _ h
    | none =>
      rw [hv] at dg
      refine ⟨_, rfl, _, rfl, S.st, _, _, _, _, rfl, ho, T.cl_Store, T.na_Store__small, rfl, ?_⟩
      refine ⟨_, _, rfl, dg, true, rfl, iteT ?_⟩
      k_upd
      obtain ⟨us, gp, lus, _⟩ := hS1.pt
      refine ⟨_, rfl, S.st, _, _, rfl, ho, rfl, _, rfl, _, rfl, b, fit_lt hl hf, rfl, _, rfl, by k_clsL, fun ep nep => ?_⟩
      k_invariant "new" (nep, H2, e2, g2)
      have hS2 := hS1.up e2
      obtain ⟨dx, ru, ho2⟩ := hS2.ob
      have sz := hS.sz
      refine ⟨S, lvG G, ctG G, btG G, us, l, (popN b : Nat), b, .ref ep, rfl, ⟨dx, ru, ho2⟩, hS2.lv, hS2.ct, hS2.bt, e2 _ _ gp, hS2.nd, ?_, ?_, ?_, by omega, ?_⟩
      · unfold lvG
        rw [List.length_map]
        omega
      · unfold ctG
        rw [List.length_map]
        omega
      · unfold btG
        rw [List.length_map]
        omega
      obtain ⟨H3, e3⟩ : ∃ H3, H3 = upd (upd (upd (upd H2 S.la (.lst (lvG G ++ [.int (l : Int)]))) S.ca (.lst (ctG G ++ [.int (popN b : Nat)]))) S.ba (.lst (btG G ++ [.int (b : Int)]))) S.pa (.lst (us ++ [.ref ep])) := ⟨_, rfl⟩
      rw [← e3]
      obtain ⟨same, i1, i2, i3, i4, i5, i6, i7, i8, y1, y2, y3, y4, y5, y6, y7, _, _, _, _, _, _, inM, inL⟩ := updG4 hS2 e3
      have kM : kp ∉ S.M := hS.off nk
      have g3 : H3 kp = some (.tup [.int (l : Int), .int (b : Int)]) := by rw [same _ kM]; exact e2 _ _ g1
      have stM : S.st ∉ S.M := (List.nodup_cons.mp hS.nd).1
      have ho3 : H3 S.st = some (.ins T.C_Store dx (sf ru S.bo S.la S.ca S.ba S.pa S.sm S.lg S.em S.fu)) := by rw [same _ stM]; exact ho2
      have hk3 : H3 S.sm = some (.dT kvs) := by rw [i5]; exact e2 _ _ hk
      have ll : (lvG G).length = G.length := List.length_map ..
      rw [ll]
      have lk9 : kvs.length < sizeLine := by rw [sizeLine_eq]; omega
      refine ⟨_, rfl, S.st, _, _, _, _, rfl, ho3, T.cl_Store, T.na_Store__small, rfl, _, rfl, S.sm, _, rfl, .t (k := keyP ((l : Int), (b : Int))) hk3 g3 lk9, ?_⟩
      obtain ⟨H4, e4⟩ : ∃ H4, H4 = upd H3 S.sm (.dT (putK kvs (keyP ((l : Int), (b : Int))) (.int (G.length : Nat)))) := ⟨_, rfl⟩
      rw [← e4]
      have g4 : H4 S.sm = some (.dT (putK kvs (keyP ((l : Int), (b : Int))) (.int (G.length : Nat)))) := by rw [e4, upd_same]
      have off4 : ∀ {a : Addr}, a ≠ S.sm → H4 a = H3 a := fun n => by rw [e4, upd_ne n]
      obtain ⟨k2, b1, b2, b3⟩ := hS2.lg
      have pr : G <+: G ++ [smallE l b] := ⟨_, rfl⟩
      have last : (G ++ [smallE l b])[G.length]? = some (smallE l b) := by rw [List.getElem?_append_right (Nat.le_refl _), Nat.sub_self]; rfl
      have st4 : GS T.C_Store T.C_Blocks T.C_Rule bs ss H4 S (G ++ [smallE l b]) (Z + 1) := hS2.grow (smallE l b) (smallE_ok hl hf) (us := us) (v := .ref ep)
        (fun a c => (off4 fun e => c (by rw [e]; exact inM)).trans (same a c)) (by rw [off4 y1]; exact i1) (by rw [off4 y2]; exact i2) (by rw [off4 y3]; exact i3) (e2 _ _ gp) (by rw [off4 y4]; exact i4) (fun h => absurd h (by show ¬ 6 ≤ l; omega))
        g4 (Nat.le_trans (length_putK _ _ _) (by omega)) (fun x v hv2 => by
          rw [valV_put] at hv2
          by_cases ex : keyP x = keyP ((l : Int), (b : Int))
          · rw [if_pos ex] at hv2
            obtain rfl := Option.some.inj hv2
            exact ⟨G.length, smallE l b, rfl, last, by show l ≤ 5; omega, keyP_inj ex⟩
          · rw [if_neg ex] at hv2
            obtain ⟨n, u, u1, u2, u3⟩ := sk x v hv2
            exact ⟨n, u, u1, preG pr u2, u3⟩)
        (by rw [off4 y5, i6]; exact b1) (by omega) (fun a b c d v hv2 => by
          obtain ⟨n, u, u1, u2, u3⟩ := b3 a b c d v hv2
          exact ⟨n, u, u1, preG pr u2, u3⟩)
        (by rw [off4 y6]; exact i7) (by rw [off4 y7]; exact i8)
      have ks : kp ≠ S.sm := fun e => kM (by rw [e]; exact inM)
      have g5 : H4 kp = some (.tup [.int (l : Int), .int (b : Int)]) := by rw [off4 ks]; exact g3
      have dg4 : DGet H4 S.sm (.ref kp) (some (.int (G.length : Nat))) := by
        have := DGet.t (k := keyP ((l : Int), (b : Int))) g4 g5
        rw [valV_put, if_pos rfl] at this
        exact this
      obtain ⟨dx4, ru4, ho4⟩ := st4.ob
      refine ⟨_, rfl, S.st, _, _, _, _, rfl, ho4, T.cl_Store, T.na_Store__small, rfl, _, rfl, S.sm, _, rfl, dg4, ?_⟩
      refine q H4 (G ++ [smallE l b]) G.length (smallE l b) ⟨?_, st4, pr, .of fun o h => by rw [off4 y7, i8]; exact e2 _ _ (e1 _ _ h)⟩ last rfl rfl rfl fun o h => by rw [off4 y6, i7]; exact e2 _ _ (e1 _ _ h)
      refine (hide_up (e1.trans e2)).trans fun a o h => ?_
      by_cases c : a ∈ S.M
      · rw [hide_in c] at h
        cases h
      · rw [hide_out c] at h ⊢
        rw [off4 fun e => c (by rw [e]; exact inM), same a c]
        exact h
end
end My
namespace My
open PySem PySem.Spec PyProof.Rows L2 Vx
open TL
local macro_rules | `(tactic| k_invariant "new" ($n, $H:ident, $e:ident, $h:ident)) => `(tactic| (generalize hE : upd _ _ _ = $H; obtain ⟨$e:ident, $h:ident⟩ := gen_e hE $n; clear hE))
local macro_rules | `(tactic| k_places) => `(tactic| first
  | assumption
  | exact lst_of (by assumption)
  | exact tup_of (by assumption)
  | (refine getS (by assumption) ?_; k_places)
  | (refine Same.seq (by assumption) ?_; k_places)
  | (refine tupS (by assumption) ?_; k_places)
  | (refine lst_of ?_; k_places)
  | (refine tup_of ?_; k_places))
local macro_rules | `(tactic| k_subL) => `(tactic| first
  | k_places
  | solve_by_elim (maxDepth := 10) [getS, lst_of, tup_of, Same.seq, tupS])
local macro_rules | `(tactic| k_offL) => `(tactic| first
  | (show (0 : Int) < _; first | omega | decide)
  | (refine ⟨?_, ?_⟩ <;> first | omega | decide)
  | exact .inr ⟨by decide, by decide⟩
  | exact .inl ⟨by decide, by decide⟩
  | exact .inl ⟨by omega, by omega⟩
  | omega)
local macro_rules | `(tactic| k_clsL) => `(tactic| exact Nat.le_of_ble_eq_true rfl)
local macro_rules | `(tactic| k_upd) => `(tactic| simp only [L2.start, List.map_cons, List.map_nil, List.length_cons, List.length_nil, List.replicate_succ, List.replicate_zero, List.cons_append, List.nil_append, List.set_cons_zero, List.set_cons_succ])
section
variable {P : Program} {w : World} {K : PySem.W.Frag} {mg : Str → Option Value} {base : Heap}
/-! ### four squares joined -/
theorem quad_put {l a b c d : Nat} (hl : l < 5) (ha : Fit l a) (hb : Fit l b) (hc : Fit l c) (hd : Fit l d) : blL (putN (2 ^ l) a b c d) = quadL ((2 ^ l : Nat) : Int) (blL a) (blL b) (blL c) (blL d) := by
  have h16 := pow_le16 hl
  funext r s
  have ha := fun i => ha i
  have hb := fun i => hb i
  have hc := fun i => hc i
  have hd := fun i => hd i
  have h0 : 0 < 2 ^ l := Nat.pow_pos (by decide)
  generalize 2 ^ l = h at *
  rw [Bool.eq_iff_iff]
  unfold quadL blL
  rw [put_bit]
  constructor
  · intro t
    obtain ⟨t1, t2⟩ := Bool.and_eq_true_iff.mp t
    have t1 := of_decide_eq_true t1
    simp only [Bool.or_eq_true, Bool.and_eq_true, decide_eq_true_eq] at t2
    rcases t2 with ((z | ⟨z, y⟩) | ⟨z, y⟩) | ⟨z, y⟩
    · have := ha _ z
      rw [if_pos (by omega), if_pos (by omega), decide_eq_true (by omega), Bool.true_and]
      exact z
    · have := hb _ y
      rw [if_pos (by omega), if_neg (by omega), decide_eq_true (by omega), Bool.true_and, show r.toNat * 32 + (s - (h : Int)).toNat = r.toNat * 32 + s.toNat - h by omega]
      exact y
    · have := hc _ y
      rw [if_neg (by omega), if_pos (by omega), decide_eq_true (by omega), Bool.true_and, show (r - (h : Int)).toNat * 32 + s.toNat = r.toNat * 32 + s.toNat - h * 32 by omega]
      exact y
    · have := hd _ y
      obtain ⟨x1, ex⟩ := Int.eq_ofNat_of_zero_le t1.1
      obtain ⟨y1, ey⟩ := Int.eq_ofNat_of_zero_le t1.2.2.1
      subst ex ey
      rw [Int.toNat_natCast, Int.toNat_natCast] at z y this
      have hy : h ≤ y1 := Classical.byContradiction fun n => by
        have e : x1 * 32 + y1 - (h * 32 + h) = 32 * (x1 - h - 1) + (32 + y1 - h) := by omega
        rw [e, Nat.mul_add_mod, Nat.mod_eq_of_lt (by omega)] at this
        omega
      have hx : h ≤ x1 := by omega
      rw [if_neg (by omega), if_neg (by omega), decide_eq_true (by omega), Bool.true_and, show ((x1 : Int) - (h : Int)).toNat * 32 + ((y1 : Int) - (h : Int)).toNat = x1 * 32 + y1 - (h * 32 + h) by omega]
      exact y
  · intro t
    by_cases c1 : r < (h : Int)
    · rw [if_pos c1] at t
      by_cases c2 : s < (h : Int)
      · rw [if_pos c2] at t
        obtain ⟨t1, t2⟩ := Bool.and_eq_true_iff.mp t
        rw [t1, t2]
        rfl
      · rw [if_neg c2] at t
        obtain ⟨t1, t2⟩ := Bool.and_eq_true_iff.mp t
        have t1 := of_decide_eq_true t1
        have := hb _ t2
        rw [show r.toNat * 32 + (s - (h : Int)).toNat = r.toNat * 32 + s.toNat - h by omega] at t2
        rw [t2, decide_eq_true (by omega), decide_eq_true (show h ≤ r.toNat * 32 + s.toNat by omega)]
        simp
    · rw [if_neg c1] at t
      by_cases c2 : s < (h : Int)
      · rw [if_pos c2] at t
        obtain ⟨t1, t2⟩ := Bool.and_eq_true_iff.mp t
        have t1 := of_decide_eq_true t1
        have := hc _ t2
        rw [show (r - (h : Int)).toNat * 32 + s.toNat = r.toNat * 32 + s.toNat - h * 32 by omega] at t2
        rw [t2, decide_eq_true (by omega), decide_eq_true (show h * 32 ≤ r.toNat * 32 + s.toNat by omega)]
        simp
      · rw [if_neg c2] at t
        obtain ⟨t1, t2⟩ := Bool.and_eq_true_iff.mp t
        have t1 := of_decide_eq_true t1
        have := hd _ t2
        rw [show (r - (h : Int)).toNat * 32 + (s - (h : Int)).toNat = r.toNat * 32 + s.toNat - (h * 32 + h) by omega] at t2
        rw [t2, decide_eq_true (by omega), decide_eq_true (show h * 32 + h ≤ r.toNat * 32 + s.toNat by omega)]
        simp
theorem put_fit {l a b c d : Nat} (hl : l < 5) (ha : Fit l a) (hb : Fit l b) (hc : Fit l c) (hd : Fit l d) : Fit (l + 1) (putN (2 ^ l) a b c d) := fun i h => by
  rw [put_bit] at h
  have p2 : 2 ^ (l + 1) = 2 * 2 ^ l := by rw [Nat.pow_succ, Nat.mul_comm]
  have h16 := pow_le16 hl
  rw [p2]
  simp only [Bool.or_eq_true, Bool.and_eq_true, decide_eq_true_eq] at h
  rcases h with ((h | ⟨z, h⟩) | ⟨z, h⟩) | ⟨z, h⟩
  · have := ha _ h
    generalize 2 ^ l = p at *
    omega
  · have := hb _ h
    generalize 2 ^ l = p at *
    omega
  · have := hc _ h
    generalize 2 ^ l = p at *
    omega
  · have := hd _ h
    generalize 2 ^ l = p at *
    omega
theorem pow_two (l : Nat) : ((2 ^ (l + 1) : Nat) : Int) = 2 * ((2 ^ l : Nat) : Int) := by
  rw [Nat.pow_succ, Nat.mul_comm]
  rfl
theorem pow_pos2 (l : Nat) : (0 : Int) < ((2 ^ l : Nat) : Int) := Int.natCast_pos.mpr (Nat.pow_pos (by decide))
theorem quad_supp {l : Nat} {A B C D : Int → Int → Bool} (ha : Supp l A) (hb : Supp l B) (hc : Supp l C) (hd : Supp l D) : Supp (l + 1) (quadL ((2 ^ l : Nat) : Int) A B C D) := fun r c t => by
  rw [pow_two]
  have h0 := pow_pos2 l
  have ha := ha r c
  have hb := hb r (c - ((2 ^ l : Nat) : Int))
  have hc := hc (r - ((2 ^ l : Nat) : Int)) c
  have hd := hd (r - ((2 ^ l : Nat) : Int)) (c - ((2 ^ l : Nat) : Int))
  unfold quadL at t
  generalize ((2 ^ l : Nat) : Int) = h at *
  split at t
  · split at t
    · have := ha t
      omega
    · have := hb t
      omega
  · split at t
    · have := hc t
      omega
    · have := hd t
      omega
theorem quad_zero {l : Nat} {A B C D : Int → Int → Bool} (ha : Supp l A) (hb : Supp l B) (hc : Supp l C) (hd : Supp l D) : (∀ r c, quadL ((2 ^ l : Nat) : Int) A B C D r c = false) ↔ (∀ r c, A r c = false) ∧ (∀ r c, B r c = false) ∧ (∀ r c, C r c = false) ∧ ∀ r c, D r c = false := by
  have h0 := pow_pos2 l
  constructor
  · intro z
    have no : ∀ (X : Int → Int → Bool) (i j : Int), Supp l X → (∀ r c, 0 ≤ r → r < ((2 ^ l : Nat) : Int) → 0 ≤ c → c < ((2 ^ l : Nat) : Int) → quadL ((2 ^ l : Nat) : Int) A B C D (r + i) (c + j) = X r c) → ∀ r c, X r c = false := fun X i j hX e r c => by
      cases t : X r c with
      | false => rfl
      | true =>
        obtain ⟨s1, s2, s3, s4⟩ := hX r c t
        have := e r c s1 s2 s3 s4
        rw [z, t] at this
        cases this
    unfold quadL at no
    refine ⟨no A 0 0 ha ?_, no B 0 ((2 ^ l : Nat) : Int) hb ?_, no C ((2 ^ l : Nat) : Int) 0 hc ?_, no D ((2 ^ l : Nat) : Int) ((2 ^ l : Nat) : Int) hd ?_⟩ <;> intro r c s1 s2 s3 s4
    · rw [if_pos (by omega), if_pos (by omega), Int.add_zero, Int.add_zero]
    · rw [if_pos (by omega), if_neg (by omega), Int.add_zero, Int.add_sub_cancel]
    · rw [if_neg (by omega), if_pos (by omega), Int.add_zero, Int.add_sub_cancel]
    · rw [if_neg (by omega), if_neg (by omega), Int.add_sub_cancel, Int.add_sub_cancel]
  · rintro ⟨h1, h2, h3, h4⟩ r c
    unfold quadL
    split
    · split
      · exact h1 _ _
      · exact h2 _ _
    · split
      · exact h3 _ _
      · exact h4 _ _
theorem key4_inj {a b c d a' b' c' d' : Nat} (h : key4 a b c d = key4 a' b' c' d') : a = a' ∧ b = b' ∧ c = c' ∧ d = d' := by
  injection h with h1 h
  injection h with h2 h
  injection h with h3 h
  injection h with h4 _
  injection h1 with h1
  injection h2 with h2
  injection h3 with h3
  injection h4 with h4
  exact ⟨Int.ofNat.inj h1, Int.ofNat.inj h2, Int.ofNat.inj h3, Int.ofNat.inj h4⟩
def sp_joined (C CB CR : Addr) : Sp := fun vs H Q _ => ∃ (A : GA) (G : List Ent) (S l a b c d : Nat) (ea eb ec ed : Ent) (bs ss : List Int), vs = [.ref A.st, .int (a : Int), .int (b : Int), .int (c : Int), .int (d : Int)] ∧ GS C CB CR bs ss H A G S ∧ S < 9000000 ∧
  G[a]? = some ea ∧ G[b]? = some eb ∧ G[c]? = some ec ∧ G[d]? = some ed ∧ ea.l = l ∧ eb.l = l ∧ ec.l = l ∧ ed.l = l ∧
  ∀ (H' : Hp) (G' : List Ent) (n : Nat) (e : Ent), Gg C CB CR bs ss A 1 H G S H' G' → G'[n]? = some e → e.l = l + 1 → e.L = quadL ((2 ^ l : Nat) : Int) ea.L eb.L ec.L ed.L → (∀ o, H A.em = some o → H' A.em = some o) → Q (.int (n : Int)) H'
theorem ok_Store_joined (T : Txt K mg) : FnOk P w K mg base CX0 3 T.f_Store_joined T.d_Store_joined ["self", "a", "b", "c", "d"] (sp_joined T.C_Store T.C_Blocks T.C_Rule) := by
  refine T.F_Store_joined.ok sc_Store_joined (fun vs H Q E h => ?_) (fun cdv A outer s H vs Q E hr h => ?_)
  · obtain ⟨_, _, _, _, _, _, _, _, _, _, _, _, _, _, rfl, _⟩ := h
    rfl
  · obtain ⟨S, G, Z, l, a, b, c, d, ea, eb, ec, ed, bs, ss, rfl, hS, few, h0, h1, h2, h3, la, lb, lc, ld, q⟩ := h
    have hu : (A.deeper (envOfC (Str.ofString "Store.joined") (defScope s_Store_joined) s.heap.objs.size T.f_Store_joined cdv)).units + 1 < cLine := by
      have := hr.units
      omega
    obtain ⟨dx, ru, ho⟩ := hS.ob
    refine ⟨_, (pss_cons (ps_set (i := 5) sc_Store_joined.nd rfl (.inl rfl) (pe_op op_add (pe_ix ix_list (pe_fld (pv 0) rfl) (pv 1) (fun _ _ => rfl)) pe_int))
      (pss_cons (ps_if (pt_cmpR op_le (pv 5) (pe_gcx (by rfl) T.c_TOP) (nomark _))
      (pss_cons (ps_set (i := 6) sc_Store_joined.nd rfl (.inl rfl) (pe_fld (pv 0) rfl))
      (pss_one (ps_ret (pe_meth (pv 0) T.cl_Store T.m_Store_small (ok_Store_small T) (hr.mono (by decide)) T.b_Store_small .nil pass0 (pa_cons (pv 5) (pa_cons (pe_meth (pe_fld (pv 0) rfl) T.cl_Blocks T.m_Blocks_put_together (ok_Blocks_put_together T) (hr.mono (by decide)) T.b_Blocks_put_together .nil pass0 (pa_cons (pv 5) (pa_cons (pe_ix ix_list (pv 6) (pv 1) (fun _ _ => rfl)) (pa_cons (pe_ix ix_list (pv 6) (pv 2) (fun _ _ => rfl)) (pa_cons (pe_ix ix_list (pv 6) (pv 3) (fun _ _ => rfl)) (pa_cons (pe_ix ix_list (pv 6) (pv 4) (fun _ _ => rfl)) pa_nil)))))) pa_nil))))))
      pss_nil)
      (pss_cons (ps_set (i := 7) sc_Store_joined.nd rfl (.inl rfl) (pe_tup (pa_cons (pv 1) (pa_cons (pv 2) (pa_cons (pv 3) (pa_cons (pv 4) pa_nil))))))
      (pss_cons (ps_if (pt_cmp (pc_dnotin hu (pv 7) (pe_fld (pv 0) rfl)))
      (pss_cons (ps_set (i := 8) sc_Store_joined.nd rfl (.inl rfl) (pe_fld (pv 0) rfl))
      (pss_cons (ps_set (i := 9) sc_Store_joined.nd rfl (.inl rfl) (pe_op op_add (pe_op op_add (pe_op op_add (pe_ix ix_list (pv 8) (pv 1) (fun _ _ => rfl)) (pe_ix ix_list (pv 8) (pv 2) (fun _ _ => rfl))) (pe_ix ix_list (pv 8) (pv 3) (fun _ _ => rfl))) (pe_ix ix_list (pv 8) (pv 4) (fun _ _ => rfl))))
      (pss_one (ps_dput hu (pe_fld (pv 0) rfl) (pv 7) (pe_meth (pv 0) T.cl_Store T.m_Store_new_square (ok_Store_new_square T) (hr.mono (by decide)) T.b_Store_new_square .nil pass0 (pa_cons (pv 5) (pa_cons (pv 9) (pa_cons pe_int (pa_cons (pv 7) pa_nil))))) rfl))))
      pss_nil)
      (pss_one (ps_ret (pe_dget hu (pe_fld (pv 0) rfl) (pv 7) (fun _ _ => rfl)))))))), ?_⟩
    k_upd
    refine ⟨_, rfl, S.st, _, _, _, _, rfl, ho, T.cl_Store, T.na_Store__levels, rfl, _, rfl, _, _, _, _, rfl, rfl, lst_of hS.lv, lvG_at h0, _, _, rfl, rfl, ?_⟩
    dsimp only
    rw [la, show ((l : Nat) : Int) + 1 = ((l + 1 : Nat) : Int) by omega]
    refine gName_go ?_
    k_upd
    refine ⟨_, rfl, _, _, rfl, rfl, _, rfl, ite2 (fun cc => ?_) (fun cc => ?_)⟩
    · have hl : l < 5 := by
        have := of_decide_eq_true cc
        omega
      have fa := ((hS.wf _ _ h0).small (by omega))
      have fb := ((hS.wf _ _ h1).small (by omega))
      have fc := ((hS.wf _ _ h2).small (by omega))
      have fd := ((hS.wf _ _ h3).small (by omega))
      rw [la] at fa
      rw [lb] at fb
      rw [lc] at fc
      rw [ld] at fd
      refine ⟨_, rfl, S.st, _, _, _, _, rfl, ho, T.cl_Store, T.na_Store__bits, rfl, ?_⟩
      k_upd
      obtain ⟨dxb, rub, flb, hb1, hb2, _⟩ := hS.blk
      refine ⟨_, rfl, S.st, _, _, rfl, ho, rfl, _, rfl, _, rfl, S.st, _, _, _, _, rfl, ho, T.cl_Store, T.na_Store__blocks, rfl, S.bo, _, _, rfl, hide_le _ _ hb1, rfl, ?_⟩
      refine ⟨_, rfl, _, rfl, _, rfl, _, _, _, _, rfl, rfl, lst_of hS.bt, btG_at h0, _, rfl, _, rfl, _, _, _, _, rfl, rfl, lst_of hS.bt, btG_at h1, _, rfl, _, rfl, _, _, _, _, rfl, rfl, lst_of hS.bt, btG_at h2, _, rfl, _, rfl, _, _, _, _, rfl, rfl, lst_of hS.bt, btG_at h3, ?_⟩
      refine ⟨S.bo, l, ea.b, eb.b, ec.b, ed.b, hl, fit_lt (by omega) fa.1, fit_lt (by omega) fb.1, fit_lt (by omega) fc.1, fit_lt (by omega) fd.1, rfl, ?_⟩
      refine ⟨S, G, Z, l + 1, _, bs, ss, rfl, hS, by omega, put_fit hl fa.1 fb.1 fc.1 fd.1, few, fun H' G' n e g en el eb' eL ke => q H' G' n e g en el ?_ ke⟩
      rw [eL, quad_put hl fa.1 fb.1 fc.1 fd.1, fa.2, fb.2, fc.2, fd.2]
    · have hl : 5 ≤ l := Classical.byContradiction fun n => cc (decide_eq_true (by omega))
      refine ⟨_, rfl, _, rfl, _, rfl, _, rfl, by k_clsL, fun kp nk => ?_⟩
      k_invariant "new" (nk, H1, e1, g1)
      k_upd
      have hS1 := hS.up e1
      obtain ⟨dx, ru, ho⟩ := hS1.ob
      obtain ⟨kvs, hk, lk, sk⟩ := hS1.lg
      have dg : DGet H1 S.lg (.ref kp) (valV kvs (key4 a b c d)) := .t (k := key4 a b c d) hk g1
      refine gName_go ?_
      k_upd
      cases hv : valV kvs (key4 a b c d) with
      | some v =>
        rw [hv] at dg
        refine ⟨_, rfl, _, rfl, S.st, _, _, _, _, rfl, ho, T.cl_Store, T.na_Store__large, rfl, ?_⟩
        refine ⟨_, _, rfl, dg, false, rfl, iteF ?_⟩
        k_upd
        refine ⟨_, rfl, S.st, _, _, _, _, rfl, ho, T.cl_Store, T.na_Store__large, rfl, _, rfl, S.lg, _, rfl, dg, ?_⟩
        obtain ⟨n, e, rfl, en, el, ep⟩ := sk _ _ _ _ _ hv
        obtain ⟨a', b', c', d', ea', eb', ec', ed', q1, q2, q3, q4, q5, l1, l2, l3, l4, eL⟩ := (hS.wf n e en).large el
        rw [ep] at q1
        injection q1 with z1 q1
        injection q1 with z2 q1
        injection q1 with z3 q1
        injection q1 with z4 _
        subst z1 z2 z3 z4
        rw [h0] at q2
        rw [h1] at q3
        rw [h2] at q4
        rw [h3] at q5
        obtain rfl := Option.some.inj q2
        obtain rfl := Option.some.inj q3
        obtain rfl := Option.some.inj q4
        obtain rfl := Option.some.inj q5
        exact q H1 G n e ((Gg.refl 1 hS).same e1) en (by omega) (by rw [eL, la]) fun o h => e1 _ _ h
      | none =>
        rw [hv] at dg
        refine ⟨_, rfl, _, rfl, S.st, _, _, _, _, rfl, ho, T.cl_Store, T.na_Store__large, rfl, ?_⟩
        refine ⟨_, _, rfl, dg, true, rfl, iteT ?_⟩
        k_upd
        refine ⟨_, rfl, S.st, _, _, _, _, rfl, ho, T.cl_Store, T.na_Store__counts, rfl, ?_⟩
        k_upd
        refine ⟨_, rfl, _, rfl, _, _, _, _, rfl, rfl, lst_of hS1.ct, ctG_at h0, _, rfl, _, rfl, _, _, _, _, rfl, rfl, lst_of hS1.ct, ctG_at h1, _, _, rfl, rfl, _, rfl, _, rfl, _, _, _, _, rfl, rfl, lst_of hS1.ct, ctG_at h2, _, _, rfl, rfl, _, rfl, _, rfl, _, _, _, _, rfl, rfl, lst_of hS1.ct, ctG_at h3, _, _, rfl, rfl, ?_⟩
        refine gName_go ?_
        k_upd
        obtain ⟨us, gp, lus, _⟩ := hS1.pt
        have sz := hS.sz
        refine ⟨_, rfl, S.st, _, _, rfl, ho, rfl, _, rfl, _, rfl, _, rfl, ?_⟩
        refine ⟨S, lvG G, ctG G, btG G, us, _, _, _, .ref kp, rfl, ⟨dx, ru, ho⟩, hS1.lv, hS1.ct, hS1.bt, gp, hS1.nd, ?_, ?_, ?_, by omega, ?_⟩
        · unfold lvG
          rw [List.length_map]
          omega
        · unfold ctG
          rw [List.length_map]
          omega
        · unfold btG
          rw [List.length_map]
          omega
        have esum : ((ea.c : Nat) : Int) + ((eb.c : Nat) : Int) + ((ec.c : Nat) : Int) + ((ed.c : Nat) : Int) = ((ea.c + eb.c + ec.c + ed.c : Nat) : Int) := by omega
        rw [esum]
        obtain ⟨ne, ene⟩ : ∃ ne : Ent, ne = ⟨l + 1, 0, ea.c + eb.c + ec.c + ed.c, [a, b, c, d], quadL ((2 ^ l : Nat) : Int) ea.L eb.L ec.L ed.L⟩ := ⟨_, rfl⟩
        have pr : G <+: G ++ [ne] := ⟨_, rfl⟩
        have last : (G ++ [ne])[G.length]? = some ne := by rw [List.getElem?_append_right (Nat.le_refl _), Nat.sub_self]; rfl
        have oka := hS.wf _ _ h0
        have okb := hS.wf _ _ h1
        have okc := hS.wf _ _ h2
        have okd := hS.wf _ _ h3
        have sa := oka.supp
        have sb := okb.supp
        have sc := okc.supp
        have sd := okd.supp
        rw [la] at sa
        rw [lb] at sb
        rw [lc] at sc
        rw [ld] at sd
        have nok : EntOk (G ++ [ne]) ne := by
          rw [ene]
          refine ⟨quad_supp sa sb sc sd, ?_, fun h => absurd h (by show ¬ l + 1 ≤ 5; omega), fun _ => ⟨a, b, c, d, ea, eb, ec, ed, rfl, preG ⟨_, rfl⟩ h0, preG ⟨_, rfl⟩ h1, preG ⟨_, rfl⟩ h2, preG ⟨_, rfl⟩ h3, by show ea.l + 1 = l + 1; omega, by show eb.l + 1 = l + 1; omega, by show ec.l + 1 = l + 1; omega, by show ed.l + 1 = l + 1; omega, by rw [la]⟩⟩
          show ea.c + eb.c + ec.c + ed.c = 0 ↔ _
          refine Iff.trans ?_ (quad_zero sa sb sc sd).symm
          rw [← oka.cnt, ← okb.cnt, ← okc.cnt, ← okd.cnt]
          omega
        obtain ⟨H3, e3⟩ : ∃ H3, H3 = upd (upd (upd (upd H1 S.la (.lst (lvG G ++ [.int ((l + 1 : Nat) : Int)]))) S.ca (.lst (ctG G ++ [.int ((ea.c + eb.c + ec.c + ed.c : Nat) : Int)]))) S.ba (.lst (btG G ++ [.int 0]))) S.pa (.lst (us ++ [.ref kp])) := ⟨_, rfl⟩
        rw [← e3]
        obtain ⟨same, i1, i2, i3, i4, i5, i6, i7, i8, _, _, _, _, _, _, _, y1, y2, y3, y4, y6, y7, inM, inL⟩ := updG4 hS1 e3
        have ysm : S.sm ≠ S.lg := by
          have nd := hS.nd
          simp only [GA.M, List.nodup_cons, List.mem_cons, List.not_mem_nil, or_false, not_or] at nd
          exact nd.2.2.2.2.2.1.1
        have kM : kp ∉ S.M := hS.off nk
        have g3 : H3 kp = some (.tup (intL [a, b, c, d])) := by rw [same _ kM]; exact g1
        have stM : S.st ∉ S.M := (List.nodup_cons.mp hS.nd).1
        have ho3 : H3 S.st = some (.ins T.C_Store dx (sf ru S.bo S.la S.ca S.ba S.pa S.sm S.lg S.em S.fu)) := by rw [same _ stM]; exact ho
        have hk3 : H3 S.lg = some (.dT kvs) := by rw [i6]; exact hk
        have ll : (lvG G).length = G.length := List.length_map ..
        rw [ll]
        have lk9 : kvs.length < sizeLine := by rw [sizeLine_eq]; omega
        refine ⟨_, rfl, S.st, _, _, _, _, rfl, ho3, T.cl_Store, T.na_Store__large, rfl, _, rfl, S.lg, _, rfl, .t (k := key4 a b c d) hk3 g3 lk9, ?_⟩
        obtain ⟨H4, e4⟩ : ∃ H4, H4 = upd H3 S.lg (.dT (putK kvs (key4 a b c d) (.int (G.length : Nat)))) := ⟨_, rfl⟩
        rw [← e4]
        have g4 : H4 S.lg = some (.dT (putK kvs (key4 a b c d) (.int (G.length : Nat)))) := by rw [e4, upd_same]
        have off4 : ∀ {a : Addr}, a ≠ S.lg → H4 a = H3 a := fun n => by rw [e4, upd_ne n]
        obtain ⟨k1, b1, b2, b3⟩ := hS1.sm
        have st4 : GS T.C_Store T.C_Blocks T.C_Rule bs ss H4 S (G ++ [ne]) (Z + 1) := hS1.grow ne nok (us := us) (v := .ref kp)
          (fun a c => (off4 fun e => c (by rw [e]; exact inL)).trans (same a c)) (by rw [off4 y1, ene]; exact i1) (by rw [off4 y2, ene]; exact i2) (by rw [off4 y3, ene]; exact i3) gp (by rw [off4 y4]; exact i4) (fun _ => ⟨kp, rfl, by rw [hide_out kM, ene]; exact g1⟩)
          (by rw [off4 ysm, i5]; exact b1) (by omega) (fun x v hv2 => by
            obtain ⟨n, u, u1, u2, u3⟩ := b3 x v hv2
            exact ⟨n, u, u1, preG pr u2, u3⟩)
          g4 (Nat.le_trans (length_putK _ _ _) (by omega)) (fun a' b' c' d' v hv2 => by
            rw [valV_put] at hv2
            by_cases ex : key4 a' b' c' d' = key4 a b c d
            · rw [if_pos ex] at hv2
              obtain rfl := Option.some.inj hv2
              obtain ⟨rfl, rfl, rfl, rfl⟩ := key4_inj ex
              exact ⟨G.length, ne, rfl, last, by rw [ene]; show 6 ≤ l + 1; omega, by rw [ene]⟩
            · rw [if_neg ex] at hv2
              obtain ⟨n, u, u1, u2, u3⟩ := sk _ _ _ _ v hv2
              exact ⟨n, u, u1, preG pr u2, u3⟩)
          (by rw [off4 y6]; exact i7) (by rw [off4 y7]; exact i8)
        have ks : kp ≠ S.lg := fun e => kM (by rw [e]; exact inL)
        have g5 : H4 kp = some (.tup (intL [a, b, c, d])) := by rw [off4 ks]; exact g3
        have dg4 : DGet H4 S.lg (.ref kp) (some (.int (G.length : Nat))) := by
          have := DGet.t (k := key4 a b c d) g4 g5
          rw [valV_put, if_pos rfl] at this
          exact this
        obtain ⟨dx4, ru4, ho4⟩ := st4.ob
        refine ⟨_, rfl, S.st, _, _, _, _, rfl, ho4, T.cl_Store, T.na_Store__large, rfl, _, rfl, S.lg, _, rfl, dg4, ?_⟩
        refine q H4 (G ++ [ne]) G.length ne ⟨?_, st4, pr, .of fun o h => by rw [off4 y7, i8]; exact e1 _ _ h⟩ last (by rw [ene]) (by rw [ene]) fun o h => by rw [off4 y6, i7]; exact e1 _ _ h
        refine (hide_up e1).trans fun a o h => ?_
        by_cases c : a ∈ S.M
        · rw [hide_in c] at h
          cases h
        · rw [hide_out c] at h ⊢
          rw [off4 fun e => c (by rw [e]; exact inL), same a c]
          exact h
end
end My
namespace My
open PySem PySem.Spec PyProof.Rows L2 Vx
open TL
local macro_rules | `(tactic| k_invariant "new" ($n, $H:ident, $e:ident, $h:ident)) => `(tactic| (generalize hE : upd _ _ _ = $H; obtain ⟨$e:ident, $h:ident⟩ := gen_e hE $n; clear hE))
local macro_rules | `(tactic| k_places) => `(tactic| first
  | assumption
  | exact lst_of (by assumption)
  | exact tup_of (by assumption)
  | (refine getS (by assumption) ?_; k_places)
  | (refine Same.seq (by assumption) ?_; k_places)
  | (refine tupS (by assumption) ?_; k_places)
  | (refine lst_of ?_; k_places)
  | (refine tup_of ?_; k_places))
local macro_rules | `(tactic| k_subL) => `(tactic| first
  | k_places
  | solve_by_elim (maxDepth := 10) [getS, lst_of, tup_of, Same.seq, tupS])
local macro_rules | `(tactic| k_offL) => `(tactic| first
  | (show (0 : Int) < _; first | omega | decide)
  | (refine ⟨?_, ?_⟩ <;> first | omega | decide)
  | exact .inr ⟨by decide, by decide⟩
  | exact .inl ⟨by decide, by decide⟩
  | exact .inl ⟨by omega, by omega⟩
  | omega)
local macro_rules | `(tactic| k_clsL) => `(tactic| exact Nat.le_of_ble_eq_true rfl)
local macro_rules | `(tactic| k_upd) => `(tactic| simp only [L2.start, List.map_cons, List.map_nil, List.length_cons, List.length_nil, List.replicate_succ, List.replicate_zero, List.cons_append, List.nil_append, List.set_cons_zero, List.set_cons_succ])
section
variable {P : Program} {w : World} {K : PySem.W.Frag} {mg : Str → Option Value} {base : Heap}
theorem quad_cut {l b : Nat} (hl : l < 5) (hf : Fit (l + 1) b) : blL b = quadL ((2 ^ l : Nat) : Int) (blL (cutN l b 0 0)) (blL (cutN l b 0 (2 ^ l))) (blL (cutN l b (2 ^ l) 0)) (blL (cutN l b (2 ^ l) (2 ^ l))) := by
  rw [← quad_put hl (cut_fit hl) (cut_fit hl) (cut_fit hl) (cut_fit hl), put_cut hl hf]
theorem pre_mapG {G G' : List Ent} {m : List Nat} {es : List Ent} (h : G <+: G') (e : m.map (fun n => G[n]?) = es.map some) : m.map (fun n => G'[n]?) = es.map some := by
  rw [← e]
  refine List.map_congr_left fun n mn => ?_
  have : G[n]? ∈ es.map some := by
    rw [← e]
    exact List.mem_map.mpr ⟨n, mn, rfl⟩
  obtain ⟨x, _, ex⟩ := List.mem_map.mp this
  rw [← ex]
  exact preG h ex.symm
theorem list4 {α : Type} : ∀ l : List α, l.length = 4 → ∃ a b c d, l = [a, b, c, d]
  | [a, b, c, d], _ => ⟨a, b, c, d, rfl⟩
  | [], h | [_], h | [_, _], h | [_, _, _], h => by cases h
  | _ :: _ :: _ :: _ :: _ :: _, h => by simp at h
def sp_parts (C CB CR : Addr) : Sp := fun vs H Q _ => ∃ (A : GA) (G : List Ent) (S l n : Nat) (e : Ent) (bs ss : List Int), vs = [.ref A.st, .int (n : Int)] ∧ GS C CB CR bs ss H A G S ∧ S < 8000000 ∧ G[n]? = some e ∧ e.l = l + 1 ∧
  ∀ (H' : Hp) (G' : List Ent) (p : Addr) (m0 m1 m2 m3 : Nat) (e0 e1 e2 e3 : Ent), Gg C CB CR bs ss A 4 H G S H' G' → hide A.M H' p = some (.tup (intL [m0, m1, m2, m3])) → G'[m0]? = some e0 → G'[m1]? = some e1 → G'[m2]? = some e2 → G'[m3]? = some e3 →
    e0.l = l → e1.l = l → e2.l = l → e3.l = l → e.L = quadL ((2 ^ l : Nat) : Int) e0.L e1.L e2.L e3.L → Q (.ref p) H'
theorem ok_Store_parts (T : Txt K mg) : FnOk P w K mg base CX0 3 T.f_Store_parts T.d_Store_parts ["self", "square"] (sp_parts T.C_Store T.C_Blocks T.C_Rule) := by
  refine T.F_Store_parts.ok sc_Store_parts (fun vs H Q E h => ?_) (fun cdv A outer s H vs Q E hr h => ?_)
  · obtain ⟨_, _, _, _, _, _, _, _, rfl, _⟩ := h
    rfl
  · obtain ⟨S, G, Z, l, n, e, bs, ss, rfl, hS, few, hn, el, q⟩ := h
    obtain ⟨dx, ru, ho⟩ := hS.ob
    refine ⟨_, (pss_cons (ps_set (i := 2) sc_Store_parts.nd rfl (.inr rfl) (pe_ix ix_list (pe_fld (pv 0) rfl) (pv 1) (fun _ _ => rfl)))
      (pss_cons (ps_if (pt_cmpR op_gt (pv 2) (pe_gcx (by rfl) T.c_TOP) (nomark _))
      (pss_one (ps_ret (pe_ix ix_list (pe_fld (pv 0) rfl) (pv 1) (fun _ _ => rfl))))
      pss_nil)
      (pss_cons (ps_set (i := 3) sc_Store_parts.nd rfl (.inl rfl) (pe_meth (pe_fld (pv 0) rfl) T.cl_Blocks T.m_Blocks_quarters (ok_Blocks_quarters T) (hr.mono (by decide)) T.b_Blocks_quarters .nil pass0 (pa_cons (pv 2) (pa_cons (pe_ix ix_list (pe_fld (pv 0) rfl) (pv 1) (fun _ _ => rfl)) pa_nil))))
      (pss_one (ps_ret (pe_callTy call_tupL (by rfl) T.z_tuple (by decide +kernel) (pa_cons (pe_lc (own := [("block", 4)]) (g := gName 4) (tt := tYes) rfl sc_Store_parts.nd (pi_list (pv 3)) (blkOk_by (own := [("block", 4)]) (N := N_Store_parts) (sc := defScope s_Store_parts) (by decide +kernel)) (fun _ _ _ _ _ => pg_name (i := 4) sc_Store_parts.nd rfl (Or.inl rfl)) (fun _ _ _ _ _ => pts_nil) (fun _ _ _ _ _ => (pe_meth (pv 0) T.cl_Store T.m_Store_small (ok_Store_small T) (hr.mono (by decide)) T.b_Store_small .nil pass0 (pa_cons (pe_op op_sub (pv 2) pe_int) (pa_cons (pv 4) pa_nil))))) pa_nil))))))), ?_⟩
    k_upd
    refine ⟨_, rfl, S.st, _, _, _, _, rfl, ho, T.cl_Store, T.na_Store__levels, rfl, _, rfl, _, _, _, _, rfl, rfl, lst_of hS.lv, lvG_at hn, ?_⟩
    rw [el]
    k_upd
    refine ⟨_, rfl, _, _, rfl, rfl, _, rfl, ite2 (fun c => ?_) (fun c => ?_)⟩
    · have c := of_decide_eq_true c
      obtain ⟨us, gp, lus, tus⟩ := hS.pt
      obtain ⟨t, t1, t2⟩ := tus n e hn (by omega)
      obtain ⟨a, b, c', d, ea, eb, ec, ed, q1, q2, q3, q4, q5, l1, l2, l3, l4, eL⟩ := (hS.wf n e hn).large (by omega)
      rw [q1] at t2
      refine ⟨_, rfl, S.st, _, _, _, _, rfl, ho, T.cl_Store, T.na_Store__parts, rfl, _, rfl, _, _, _, _, rfl, rfl, lst_of gp, atI_nat t1, ?_⟩
      have el0 : ea.l = l := by omega
      rw [el0] at eL
      exact q H G t a b c' d ea eb ec ed (Gg.refl 4 hS) t2 q2 q3 q4 q5 el0 (by omega) (by omega) (by omega) eL
    · have hl : l < 5 := Classical.byContradiction fun n => c (decide_eq_true (by omega))
      have fe := (hS.wf n e hn).small (by omega)
      rw [el] at fe
      obtain ⟨dxb, rub, flb, hb1, hb2, _⟩ := hS.blk
      refine ⟨_, rfl, S.st, _, _, _, _, rfl, ho, T.cl_Store, T.na_Store__blocks, rfl, S.bo, _, _, rfl, hide_le _ _ hb1, rfl, _, rfl, _, rfl, S.st, _, _, _, _, rfl, ho, T.cl_Store, T.na_Store__bits, rfl, _, rfl, _, _, _, _, rfl, rfl, lst_of hS.bt, btG_at hn, ?_⟩
      refine ⟨S.bo, l, e.b, hl, rfl, hS.blk.at.up hide_le, fun H1 lp n1 e1 g1 => ?_⟩
      k_upd
      have hS1 := hS.up e1
      have qc := quad_cut hl fe.1
      rw [← fe.2] at qc
      obtain ⟨cs, ecs⟩ : ∃ cs, cs = [cutN l e.b 0 0, cutN l e.b 0 (2 ^ l), cutN l e.b (2 ^ l) 0, cutN l e.b (2 ^ l) (2 ^ l)] := ⟨_, rfl⟩
      rw [← ecs] at g1
      have lcs : cs.length = 4 := by rw [ecs]; rfl
      have fcs : ∀ c ∈ cs, Fit l c := fun c m => by
        rw [ecs] at m
        simp only [List.mem_cons, List.not_mem_nil, or_false] at m
        rcases m with m | m | m | m <;> rw [m] <;> exact cut_fit hl
      have lM := hS.off n1
      refine ⟨_, rfl, lp, rfl, ⟨_, lst_of g1⟩, fun D nD => ?_⟩
      have DM := hS1.off nD
      have nD0 := backS e1 nD
      have nDl : lp ≠ D := fun e => by rw [← e, g1] at nD; cases nD
      refine lc_list (K := K) (a := lp) (xs := cs.map fun (n : Nat) => V.int (n : Int)) (fun i H' => i ≤ 4 ∧ ∃ (G' : List Ent) (m : List Nat) (es : List Ent), Gg T.C_Store T.C_Blocks T.C_Rule bs ss S i H G Z H' G' ∧ H' D = some (.lst (intL m)) ∧ m.map (fun n => G'[n]?) = es.map some ∧ es.map (fun u => (u.l, u.L)) = (cs.take i).map (fun (c : Nat) => (l, blL c)) ∧ H' lp = some (.lst (cs.map fun (n : Nat) => V.int (n : Int))))
        ⟨Nat.zero_le _, G, [], [], (Gg.refl 0 hS).same (e1.trans (newS nD)), upd_same, rfl, rfl, by rw [upd_ne nDl]; exact g1⟩ (fun i H' _ g => lst_of g.2.choose_spec.choose_spec.choose_spec.2.2.2.2) ?_ ?_
      · rintro i x H' hi ⟨li, G', m, es, hg, hD, em, el2, hl'⟩
        rw [List.getElem?_map] at hi
        cases hc : cs[i]? with
        | none => rw [hc] at hi; cases hi
        | some c =>
          rw [hc] at hi
          have ex : x = V.int (c : Int) := (Option.some.inj hi).symm
          subst ex
          have lc : i < 4 := by have := (List.getElem?_eq_some_iff.mp hc).1; omega
          have mc := List.mem_of_getElem? hc
          obtain ⟨dx, ru, ho⟩ := hg.st.ob
          refine ⟨rfl, tyesT ?_⟩
          refine ⟨_, rfl, S.st, _, _, rfl, ho, rfl, _, rfl, _, _, rfl, rfl, _, rfl, S, G', Z + i, l, c, bs, ss, ?_, hg.st, by omega, fcs c mc, by omega, fun H2 G2 k u g2 ek uk ub uL _ => ?_⟩
          · dsimp only
            rw [show ((l + 1 : Nat) : Int) - 1 = (l : Int) by omega]
            rfl
          · have hD2 := g2.fresh hD DM
            have hl2 := g2.fresh hl' lM
            refine ⟨_, hD2, ?_, by omega, G2, m ++ [k], es ++ [u], ?_, ?_, ?_, ?_, ?_⟩
            · have := congrArg List.length em
              have h2 := congrArg List.length el2
              rw [List.length_map, List.length_map] at this
              rw [List.length_map, List.length_map, List.length_take] at h2
              unfold intL
              rw [List.length_map, sizeLine_eq]
              omega
            · exact (hg.trans g2).loc hS nD0 fun xs z => by rw [hD2] at z; cases z
            · rw [upd_same]
              unfold intL
              rw [List.map_append]
              rfl
            · rw [List.map_append, List.map_append, pre_mapG g2.pre em]
              congr 1
              show [G2[k]?] = _
              rw [ek]
              rfl
            · rw [List.map_append, el2, take_next hc, List.map_append]
              congr 1
              show [(u.l, u.L)] = [(l, blL c)]
              rw [uk, uL]
            · rw [upd_ne nDl]
              exact hl2
      · rintro H' ⟨_, G', m, es, hg, hD, em, el2, hl'⟩
        refine ⟨_, _, rfl, lst_of hD, fun p np => ?_⟩
        rw [List.length_map, lcs] at hg el2
        rw [List.take_of_length_le (Nat.le_of_eq lcs), ecs] at el2
        have np0 : H p = none := by
          cases hp : H p with
          | none => rfl
          | some o =>
            rw [hg.fresh hp (hg.st.off np)] at np
            cases np
        have les : es.length = 4 := by
          have := congrArg List.length el2
          rwa [List.length_map] at this
        have lm : m.length = 4 := by
          have := congrArg List.length em
          rw [List.length_map, List.length_map] at this
          omega
        obtain ⟨e0, e1', e2', e3', rfl⟩ := list4 es les
        obtain ⟨m0, m1, m2, m3, rfl⟩ := list4 m lm
        simp only [List.map_cons, List.map_nil] at em el2
        injection em with x0 em
        injection em with x1 em
        injection em with x2 em
        injection em with x3 em
        injection el2 with y0 el2
        injection el2 with y1 el2
        injection el2 with y2 el2
        injection el2 with y3 el2
        injection y0 with l0 L0
        injection y1 with l1 L1
        injection y2 with l2 L2
        injection y3 with l3 L3
        refine q (upd H' p (.tup (intL [m0, m1, m2, m3]))) G' p m0 m1 m2 m3 e0 e1' e2' e3' (hg.loc hS np0 fun xs z => by rw [np] at z; cases z) ?_ x0 x1 x2 x3 l0 l1 l2 l3 (by rw [L0, L1, L2, L3]; exact qc)
        rw [hide_out (hS.off np0)]
        exact upd_same
section
variable {C CB CR : Addr} {bs ss : List Int} {H : Hp} {A : GA} {G : List Ent} {S : Nat}
theorem GS.emp (h : GS C CB CR bs ss H A G S) {es : List Nat} (he : H A.em = some (.lst (intL es))) {n : Nat} {e : Ent} (en : G[n]? = some e) (el : e.l = es.length) (ez : ∀ r c, e.L r c = false) (l20 : es.length < 20) : GS C CB CR bs ss (upd H A.em (.lst (intL es ++ [.int (n : Int)]))) A G S ∧ hide A.M (upd H A.em (.lst (intL es ++ [.int (n : Int)]))) = hide A.M H := by
  have nd := h.nd
  have ne : ∀ {x y : Addr}, x ≠ y → y ≠ x := fun h => h.symm
  simp only [GA.M, List.nodup_cons, List.mem_cons, List.not_mem_nil, or_false, not_or] at nd
  obtain ⟨⟨n1, n2, n3, n4, n5, n6, n7, n8⟩, ⟨m1, m2, m3, m4, m5, m6, m7⟩, ⟨o1, o2, o3, o4, o5, o6⟩, ⟨p1, p2, p3, p4, p5⟩, ⟨q1, q2, q3, q4⟩, ⟨r1, r2, r3⟩, ⟨t1, t2⟩, u1, _⟩ := nd
  have em : A.em ∈ A.M := by simp only [GA.M, List.mem_cons, true_or, or_true]
  have eh : hide A.M (upd H A.em (.lst (intL es ++ [.int (n : Int)]))) = hide A.M H := hide_upd em
  refine ⟨?_, eh⟩
  obtain ⟨h1, h2, h3, h4, h5, ⟨us, h6, h7, h7'⟩, ⟨k1, h8, h8'⟩, ⟨k2, h9, h9'⟩, ⟨es', d1, d2, d3, d4⟩, ⟨k3, c1, c2⟩, h11, h12, h13⟩ := h
  rw [he] at d1
  obtain rfl : es = es' := by
    injection Option.some.inj d1 with z
    have inj : ∀ {l m : List Nat}, intL l = intL m → l = m := fun {l} => by
      induction l with
      | nil =>
        intro m e
        cases m with
        | nil => rfl
        | cons _ _ => cases e
      | cons x l ih =>
        intro m e
        cases m with
        | nil => cases e
        | cons y m =>
          injection e with e1 e2
          injection e1 with e1
          rw [Int.ofNat.inj e1, ih e2]
    exact inj z
  refine ⟨by rw [eh]; exact h1, by rw [eh]; exact h2, by rw [upd_ne m6]; exact h3, by rw [upd_ne o5]; exact h4, by rw [upd_ne p4]; exact h5, ⟨us, by rw [upd_ne q3]; exact h6, h7, by rw [eh]; exact h7'⟩, ⟨k1, by rw [upd_ne r2]; exact h8, h8'⟩, ⟨k2, by rw [upd_ne t1]; exact h9, h9'⟩,
    ⟨es ++ [n], by rw [upd_same]; unfold intL; rw [List.map_append]; rfl, by rw [List.length_append]; omega, by rw [List.length_append, List.length_singleton]; omega, fun i m hm => ?_⟩, ⟨k3, by rw [upd_ne (ne u1)]; exact c1, c2⟩, h11, h12, h13⟩
  by_cases c : i < es.length
  · rw [List.getElem?_append_left c] at hm
    exact d4 i m hm
  · have li := (List.getElem?_eq_some_iff.mp hm).1
    rw [List.length_append, List.length_singleton] at li
    obtain rfl : i = es.length := by omega
    rw [List.getElem?_append_right (Nat.le_refl _), Nat.sub_self] at hm
    obtain rfl : n = m := Option.some.inj hm
    exact ⟨e, en, el, ez⟩
end
theorem intL_at {es : List Nat} {i n : Nat} (h : es[i]? = some n) : atI (intL es) (i : Int) = some (.int (n : Int)) := atI_nat (by unfold intL; rw [List.getElem?_map, h]; rfl)
theorem quad_none {h : Int} : quadL h (fun _ _ => false) (fun _ _ => false) (fun _ _ => false) (fun _ _ => false) = fun _ _ => false := by
  funext r c
  unfold quadL
  split <;> split <;> rfl
def sp_empty (C CB CR : Addr) : Sp := fun vs H Q _ => ∃ (A : GA) (G : List Ent) (S l : Nat) (bs ss : List Int), vs = [.ref A.st, .int (l : Int)] ∧ 1 ≤ A.mn ∧ GS C CB CR bs ss H A G S ∧ l ≤ 15 ∧ S < 8000000 ∧
  ∀ (H' : Hp) (G' : List Ent) (n : Nat) (e : Ent), Gg C CB CR bs ss A 20 H G S H' G' → G'[n]? = some e → e.l = l → (∀ r c, e.L r c = false) → Q (.int (n : Int)) H'
theorem ok_Store_empty (T : Txt K mg) : FnOk P w K mg base CX0 4 T.f_Store_empty T.d_Store_empty ["self", "level"] (sp_empty T.C_Store T.C_Blocks T.C_Rule) := by
  refine T.F_Store_empty.ok sc_Store_empty (fun vs H Q E h => ?_) (fun cdv A outer s H vs Q E hr h => ?_)
  · obtain ⟨_, _, _, _, _, _, rfl, _⟩ := h
    rfl
  · obtain ⟨S, G, Z, l, bs, ss, rfl, mn, hS, hl, few, q⟩ := h
    obtain ⟨e0, he0, le0, le20, _⟩ := id hS.em
    refine ⟨_, (pss_cons (ps_while PassesOwn.never (pt_cmpR op_le (pe_callB call_lenL (by rfl) T.z_len (by decide +kernel) (pa_cons (pe_fld (pv 0) rfl) pa_nil)) (pv 1) (nomark _))
      (pss_cons (ps_set (i := 2) sc_Store_empty.nd rfl (.inl rfl) (pe_ix ix_list (pe_fld (pv 0) rfl) (pe_un un_neg pe_int) (fun _ _ => rfl)))
      (pss_one (ps_expr (pe_bm PySem.F.plainAttrs_list PySem.F.slot_list_append PySem.F.type_list_append mt_append (pe_fld (pv 0) rfl) (pa_cons (pe_meth (pv 0) T.cl_Store T.m_Store_joined (ok_Store_joined T) (hr.mono (by decide)) T.b_Store_joined .nil pass0 (pa_cons (pv 2) (pa_cons (pv 2) (pa_cons (pv 2) (pa_cons (pv 2) pa_nil))))) pa_nil))))))
      (pss_one (ps_ret (pe_ix ix_list (pe_fld (pv 0) rfl) (pv 1) (fun _ _ => rfl))))), ?_⟩
    k_upd
    refine while_by (fun σ H' => ∃ (G' : List Ent) (m : Nat) (es' : List Nat) (x2 : Option V), σ = [some (.ref S.st), some (.int (l : Int)), x2] ∧ Gg T.C_Store T.C_Blocks T.C_Rule bs ss S m H G Z H' G' ∧ H' S.em = some (.lst (intL es')) ∧ es'.length = e0.length + m ∧ es'.length ≤ max e0.length (l + 1))
        (fun _ H' => match H' S.em with | some (.lst xs) => 20 - xs.length | _ => 0)
        ⟨G, 0, e0, _, rfl, Gg.refl 0 hS, he0, rfl, by omega⟩ ?_ ?_
    · rintro σ H1 ⟨G', m, es', x2, rfl, hg, he, lm, lx⟩
      obtain ⟨dx, ru, ho⟩ := hg.st.ob
      have lem : (intL es').length = es'.length := by unfold intL; rw [List.length_map]
      obtain ⟨es2, he2, l1, l20, sd⟩ := id hg.st.em
      have l1 : 1 ≤ es2.length := Nat.le_trans mn l1
      obtain rfl : es2 = es' := by
        rw [he] at he2
        injection Option.some.inj he2 with z
        have := congrArg (List.filterMap fun v : V => match v with | .int i => some i.toNat | _ => none) z
        unfold intL at this
        rw [List.filterMap_map, List.filterMap_map] at this
        have id2 : ∀ l : List Nat, l.filterMap ((fun v : V => match v with | .int i => some i.toNat | _ => none) ∘ fun (n : Nat) => V.int (n : Int)) = l := fun l => by
          have : ((fun v : V => match v with | .int i => some i.toNat | _ => none) ∘ fun (n : Nat) => V.int (n : Int)) = some := rfl
          rw [this, List.filterMap_some]
        rw [id2, id2] at this
        exact this.symm
      refine ⟨_, rfl, S.st, _, _, _, _, rfl, ho, T.cl_Store, T.na_Store__empty, rfl, _, _, rfl, lst_of he, _, rfl, _, _, rfl, rfl, _, rfl, ite2 (fun c => ?_) (fun c => ?_)⟩
      · rw [lem] at c
        have c := of_decide_eq_true c
        have lt : es2.length ≤ l := by omega
        obtain ⟨n, hn⟩ : ∃ n, es2[es2.length - 1]? = some n := ⟨_, List.getElem?_eq_getElem (by omega)⟩
        obtain ⟨u, un, ul, uz⟩ := sd _ _ hn
        have at1 : atI (intL es2) (-1) = some (.int (n : Int)) := by
          have e : es2 = es2.dropLast ++ [n] := by
            have h1 := List.dropLast_concat_getLast (l := es2) (fun z => by rw [z] at l1; cases l1)
            have h2 : es2.getLast (fun z => by rw [z] at l1; cases l1) = n := by
              rw [List.getLast_eq_getElem]
              exact (List.getElem?_eq_some_iff.mp hn).2
            rw [h2] at h1
            exact h1.symm
          rw [e]
          unfold intL
          rw [List.map_append, List.map_singleton]
          exact atI_last _ _
        refine ⟨_, rfl, S.st, _, _, _, _, rfl, ho, T.cl_Store, T.na_Store__empty, rfl, _, rfl, _, _, _, _, rfl, rfl, lst_of he, at1, ?_⟩
        k_upd
        refine ⟨_, rfl, S.st, _, _, _, _, rfl, ho, T.cl_Store, T.na_Store__empty, rfl, .inl ⟨rfl, _, lst_of he⟩, _, rfl, S.st, _, _, rfl, ho, rfl, _, rfl, _, rfl, _, rfl, _, rfl, ?_⟩
        refine ⟨S, G', Z + m, u.l, n, n, n, n, u, u, u, u, bs, ss, rfl, hg.st, by omega, un, un, un, un, rfl, rfl, rfl, rfl, fun H2 G2 k u2 g2 uk u2l u2L ke => ?_⟩
        have uf : u.L = fun _ _ => false := funext fun r => funext fun c => uz r c
        rw [uf, quad_none] at u2L
        have he3 := ke _ he
        have nfe : S.fu ≠ S.em := by
          have nd := hS.nd
          simp only [GA.M, List.nodup_cons, List.mem_cons, List.not_mem_nil, or_false, not_or] at nd
          exact fun z => nd.2.2.2.2.2.2.2.1 z.symm
        obtain ⟨s3, h3⟩ := g2.st.emp he3 uk (by omega) (fun r c => by rw [u2L]) (by omega)
        refine ⟨_, _, _, rfl, rfl, he3, ?_, ?_⟩
        · rw [lem, sizeLine_eq]
          omega
        · have g3 := hg.trans g2
          refine ⟨⟨G2, m + 1, es2 ++ [k], _, rfl, ⟨by rw [h3]; exact g3.fr, s3.more (by omega), g3.pre, g3.fk.step (fun o z => by rw [upd_ne nfe]; exact z)⟩, by rw [upd_same]; unfold intL; rw [List.map_append]; rfl, by rw [List.length_append, lm]; rfl, by rw [List.length_append, List.length_singleton]; omega⟩, ?_⟩
          rw [upd_same, he]
          dsimp only
          rw [List.length_append, lem, List.length_singleton]
          omega
      · rw [lem] at c
        have lt : l < es2.length := by
          have c : ¬ (((es2.length : Nat) : Int) ≤ (l : Int)) := fun z => c (decide_eq_true z)
          omega
        obtain ⟨n, hn⟩ : ∃ n, es2[l]? = some n := ⟨_, List.getElem?_eq_getElem lt⟩
        obtain ⟨u, un, ul, uz⟩ := sd _ _ hn
        refine ⟨_, rfl, S.st, _, _, _, _, rfl, ho, T.cl_Store, T.na_Store__empty, rfl, _, rfl, _, _, _, _, rfl, rfl, lst_of he, intL_at hn, ?_⟩
        exact q H1 G' n u (hg.more (by omega)) un ul uz
    · rintro σ H1 Q Q' m ⟨v, h1, a, C, dx, fs, w', h2, h3, h4, h5, h6, p, ys, h7, h8, v2, h9, i, j, h10, h11, b, h12, h13⟩
      exact ⟨v, h1, a, C, dx, fs, w', h2, h3, h4, h5, h6, p, ys, h7, h8, v2, h9, i, j, h10, h11, b, h12, m _ _ h13⟩
end
end My
namespace My
open PySem PySem.Spec PyProof.Rows L2 Vx
open TL
local macro_rules | `(tactic| k_invariant "new" ($n, $H:ident, $e:ident, $h:ident)) => `(tactic| (generalize hE : upd _ _ _ = $H; obtain ⟨$e:ident, $h:ident⟩ := gen_e hE $n; clear hE))
local macro_rules | `(tactic| k_places) => `(tactic| first
  | assumption
  | exact lst_of (by assumption)
  | exact tup_of (by assumption)
  | (refine getS (by assumption) ?_; k_places)
  | (refine Same.seq (by assumption) ?_; k_places)
  | (refine tupS (by assumption) ?_; k_places)
  | (refine lst_of ?_; k_places)
  | (refine tup_of ?_; k_places))
local macro_rules | `(tactic| k_subL) => `(tactic| first
  | k_places
  | solve_by_elim (maxDepth := 10) [getS, lst_of, tup_of, Same.seq, tupS])
local macro_rules | `(tactic| k_offL) => `(tactic| first
  | (show (0 : Int) < _; first | omega | decide)
  | (refine ⟨?_, ?_⟩ <;> first | omega | decide)
  | exact .inr ⟨by decide, by decide⟩
  | exact .inl ⟨by decide, by decide⟩
  | exact .inl ⟨by omega, by omega⟩
  | omega)
local macro_rules | `(tactic| k_clsL) => `(tactic| exact Nat.le_of_ble_eq_true rfl)
local macro_rules | `(tactic| k_upd) => `(tactic| simp only [L2.start, List.map_cons, List.map_nil, List.length_cons, List.length_nil, List.replicate_succ, List.replicate_zero, List.cons_append, List.nil_append, List.set_cons_zero, List.set_cons_succ])
section
variable {P : Program} {w : World} {K : PySem.W.Frag} {mg : Str → Option Value} {base : Heap}
/-! ### squares within squares -/
/-- M shows L from row x and column y on, as far as p -/
def Sub (L : Int → Int → Bool) (p x y : Int) (M : Int → Int → Bool) : Prop := ∀ r c, 0 ≤ r → r < p → 0 ≤ c → c < p → M r c = L (r + x) (c + y)
theorem Sub.id (L : Int → Int → Bool) (p : Int) : Sub L p 0 0 L := fun r c _ _ _ _ => by rw [Int.add_zero, Int.add_zero]
theorem Sub.trans {L M N : Int → Int → Bool} {p q x y u v : Int} (h : Sub L p x y M) (h' : Sub M q u v N) (u0 : 0 ≤ u) (u1 : u + q ≤ p) (v0 : 0 ≤ v) (v1 : v + q ≤ p) : Sub L q (x + u) (y + v) N := fun r c a b d e => by
  rw [h' r c a b d e, h _ _ (by omega) (by omega) (by omega) (by omega), show r + u + x = r + (x + u) by omega, show c + v + y = c + (y + v) by omega]
theorem quad_subs {p : Int} (h0 : 0 < p) (A B C D : Int → Int → Bool) : Sub (quadL p A B C D) p 0 0 A ∧ Sub (quadL p A B C D) p 0 p B ∧ Sub (quadL p A B C D) p p 0 C ∧ Sub (quadL p A B C D) p p p D := by
  refine ⟨fun r c a b d e => ?_, fun r c a b d e => ?_, fun r c a b d e => ?_, fun r c a b d e => ?_⟩ <;> unfold quadL
  · rw [if_pos (by omega), if_pos (by omega), Int.add_zero, Int.add_zero]
  · rw [if_pos (by omega), if_neg (by omega), Int.add_zero, Int.add_sub_cancel]
  · rw [if_neg (by omega), if_pos (by omega), Int.add_zero, Int.add_sub_cancel]
  · rw [if_neg (by omega), if_neg (by omega), Int.add_sub_cancel, Int.add_sub_cancel]
theorem sub_quad {L A B C D : Int → Int → Bool} {p x y : Int} (ha : Sub L p x y A) (hb : Sub L p x (y + p) B) (hc : Sub L p (x + p) y C) (hd : Sub L p (x + p) (y + p) D) : Sub L (2 * p) x y (quadL p A B C D) := fun r c a b d e => by
  unfold quadL
  split
  · split
    · exact ha _ _ (by omega) (by omega) (by omega) (by omega)
    · rw [hb _ _ (by omega) (by omega) (by omega) (by omega), show c - p + (y + p) = c + y by omega]
  · split
    · rw [hc _ _ (by omega) (by omega) (by omega) (by omega), show r - p + (x + p) = r + x by omega]
    · rw [hd _ _ (by omega) (by omega) (by omega) (by omega), show c - p + (y + p) = c + y by omega, show r - p + (x + p) = r + x by omega]
theorem Sub.at {L M : Int → Int → Bool} {p x y x' y' : Int} (h : Sub L p x y M) (ex : x = x') (ey : y = y') : Sub L p x' y' M := by
  subst ex ey
  exact h
theorem cut_sub {l b : Nat} (hl : l < 4) : Sub (blL b) ((2 ^ (l + 1) : Nat) : Int) ((2 ^ l : Nat) : Int) ((2 ^ l : Nat) : Int) (blL (cutN (l + 1) b (2 ^ l) (2 ^ l))) := fun r c a b' d e => by
  have h32 := pow_le32 (show l + 2 < 6 by omega)
  have p1 : 2 ^ (l + 1) = 2 * 2 ^ l := by rw [Nat.pow_succ, Nat.mul_comm]
  have p2 : 2 ^ (l + 2) = 4 * 2 ^ l := by rw [Nat.pow_add, Nat.mul_comm]
  unfold blL
  rw [cut_bit (by omega)]
  rw [p1] at b' e ⊢
  rw [p2] at h32
  clear p1 p2
  generalize 2 ^ l = p at *
  obtain ⟨x, rfl⟩ := Int.eq_ofNat_of_zero_le a
  obtain ⟨y, rfl⟩ := Int.eq_ofNat_of_zero_le d
  rw [decide_eq_true (by omega), decide_eq_true (show 0 ≤ (x : Int) + (p : Int) ∧ (x : Int) + (p : Int) < 32 ∧ 0 ≤ (y : Int) + (p : Int) ∧ (y : Int) + (p : Int) < 32 by omega), Bool.true_and, Bool.true_and, Int.toNat_natCast, Int.toNat_natCast]
  have e1 : (x * 32 + y) / 32 = x := by omega
  have e2 : (x * 32 + y) % 32 = y := by omega
  rw [e1, e2, decide_eq_true (show x < 2 * p by omega), decide_eq_true (show y < 2 * p by omega), Bool.and_true, Bool.and_true, show p * 32 + p + (x * 32 + y) = ((x : Int) + (p : Int)).toNat * 32 + ((y : Int) + (p : Int)).toNat by omega]
theorem pow_four (l : Nat) : ((2 ^ (l + 2) : Nat) : Int) = 4 * ((2 ^ l : Nat) : Int) := by
  rw [pow_two, pow_two]
  omega
def sp_middle (C CB CR : Addr) : Sp := fun vs H Q _ => ∃ (A : GA) (G : List Ent) (S l n : Nat) (e : Ent) (bs ss : List Int), vs = [.ref A.st, .int (n : Int)] ∧ GS C CB CR bs ss H A G S ∧ S < 7000000 ∧ G[n]? = some e ∧ e.l = l + 2 ∧
  ∀ (H' : Hp) (G' : List Ent) (m : Nat) (e' : Ent), Gg C CB CR bs ss A 17 H G S H' G' → G'[m]? = some e' → e'.l = l + 1 → Sub e.L ((2 ^ (l + 1) : Nat) : Int) ((2 ^ l : Nat) : Int) ((2 ^ l : Nat) : Int) e'.L → Q (.int (m : Int)) H'
theorem ok_Store_middle (T : Txt K mg) : FnOk P w K mg base CX0 4 T.f_Store_middle T.d_Store_middle ["self", "square"] (sp_middle T.C_Store T.C_Blocks T.C_Rule) := by
  refine T.F_Store_middle.ok sc_Store_middle (fun vs H Q E h => ?_) (fun cdv A outer s H vs Q E hr h => ?_)
  · obtain ⟨_, _, _, _, _, _, _, _, rfl, _⟩ := h
    rfl
  · obtain ⟨S, G, Z, l, n, e, bs, ss, rfl, hS, few, hn, el, q⟩ := h
    obtain ⟨dx, ru, ho⟩ := hS.ob
    refine ⟨_, (pss_cons (ps_set (i := 2) sc_Store_middle.nd rfl (.inl rfl) (pe_ix ix_list (pe_fld (pv 0) rfl) (pv 1) (fun _ _ => rfl)))
      (pss_cons (ps_if (pt_cmpR op_le (pv 2) (pe_gcx (by rfl) T.c_TOP) (nomark _))
      (pss_one (ps_ret (pe_meth (pv 0) T.cl_Store T.m_Store_small (ok_Store_small T) (hr.mono (by decide)) T.b_Store_small .nil pass0 (pa_cons (pe_op op_sub (pv 2) pe_int) (pa_cons (pe_meth (pe_fld (pv 0) rfl) T.cl_Blocks T.m_Blocks_centre (ok_Blocks_centre T) (hr.mono (by decide)) T.b_Blocks_centre .nil pass0 (pa_cons (pv 2) (pa_cons (pe_ix ix_list (pe_fld (pv 0) rfl) (pv 1) (fun _ _ => rfl)) pa_nil))) pa_nil)))))
      pss_nil)
      (pss_cons (ps_asg (pe_ix ix_list (pe_fld (pv 0) rfl) (pv 1) (fun _ _ => rfl)) (pg_tupK (K := K) (n := 4) rfl rfl (pgs_cons (pg_name (i := 3) sc_Store_middle.nd rfl (.inl rfl)) (pgs_cons (pg_name (i := 4) sc_Store_middle.nd rfl (.inl rfl)) (pgs_cons (pg_name (i := 5) sc_Store_middle.nd rfl (.inl rfl)) (pgs_cons (pg_name (i := 6) sc_Store_middle.nd rfl (.inl rfl)) pgs_nil))))))
      (pss_one (ps_ret (pe_meth (pv 0) T.cl_Store T.m_Store_joined (ok_Store_joined T) (hr.mono (by decide)) T.b_Store_joined .nil pass0 (pa_cons (pe_ix (ix_tupK (K := K) rfl) (pe_meth (pv 0) T.cl_Store T.m_Store_parts (ok_Store_parts T) (hr.mono (by decide)) T.b_Store_parts .nil pass0 (pa_cons (pv 3) pa_nil)) pe_int (fun _ _ => rfl)) (pa_cons (pe_ix (ix_tupK (K := K) rfl) (pe_meth (pv 0) T.cl_Store T.m_Store_parts (ok_Store_parts T) (hr.mono (by decide)) T.b_Store_parts .nil pass0 (pa_cons (pv 4) pa_nil)) pe_int (fun _ _ => rfl)) (pa_cons (pe_ix (ix_tupK (K := K) rfl) (pe_meth (pv 0) T.cl_Store T.m_Store_parts (ok_Store_parts T) (hr.mono (by decide)) T.b_Store_parts .nil pass0 (pa_cons (pv 5) pa_nil)) pe_int (fun _ _ => rfl)) (pa_cons (pe_ix (ix_tupK (K := K) rfl) (pe_meth (pv 0) T.cl_Store T.m_Store_parts (ok_Store_parts T) (hr.mono (by decide)) T.b_Store_parts .nil pass0 (pa_cons (pv 6) pa_nil)) pe_int (fun _ _ => rfl)) pa_nil)))))))))), ?_⟩
    k_upd
    refine ⟨_, rfl, S.st, _, _, _, _, rfl, ho, T.cl_Store, T.na_Store__levels, rfl, _, rfl, _, _, _, _, rfl, rfl, lst_of hS.lv, lvG_at hn, ?_⟩
    rw [el]
    k_upd
    refine ⟨_, rfl, _, _, rfl, rfl, _, rfl, ite2 (fun c => ?_) (fun c => ?_)⟩
    · have hl : l < 4 := by
        have := of_decide_eq_true c
        omega
      have fe := (hS.wf n e hn).small (by omega)
      obtain ⟨dxb, rub, flb, hb1, hb2, _⟩ := hS.blk
      refine ⟨_, rfl, S.st, _, _, rfl, ho, rfl, _, rfl, _, _, rfl, rfl, ?_⟩
      refine ⟨_, rfl, S.st, _, _, _, _, rfl, ho, T.cl_Store, T.na_Store__blocks, rfl, S.bo, _, _, rfl, hide_le _ _ hb1, rfl, _, rfl, _, rfl, S.st, _, _, _, _, rfl, ho, T.cl_Store, T.na_Store__bits, rfl, _, rfl, _, _, _, _, rfl, rfl, lst_of hS.bt, btG_at hn, ?_⟩
      refine ⟨S.bo, l, e.b, hl, rfl, hS.blk.at.up hide_le, ?_⟩
      refine ⟨S, G, Z, l + 1, cutN (l + 1) e.b (2 ^ l) (2 ^ l), bs, ss, ?_, hS, by omega, cut_fit (by omega), by omega, fun H' G' m e' g em e'l e'b e'L _ => q H' G' m e' (g.more (by decide)) em e'l ?_⟩
      · dsimp only
        rw [show ((l + 2 : Nat) : Int) - 1 = ((l + 1 : Nat) : Int) by omega]
        rfl
      · rw [e'L, fe.2]
        exact cut_sub hl
    · have hl : 4 ≤ l := Classical.byContradiction fun n => c (decide_eq_true (by omega))
      obtain ⟨us, gp, lus, tus⟩ := hS.pt
      obtain ⟨t, t1, t2⟩ := tus n e hn (by omega)
      obtain ⟨a, b, c', d, ea, eb, ec, ed, q1, q2, q3, q4, q5, l1, l2, l3, l4, eL⟩ := (hS.wf n e hn).large (by omega)
      rw [q1] at t2
      have ht := hide_le _ _ t2
      refine ⟨_, rfl, S.st, _, _, _, _, rfl, ho, T.cl_Store, T.na_Store__parts, rfl, _, rfl, _, _, _, _, rfl, rfl, lst_of gp, atI_nat t1, ?_⟩
      refine ⟨t, _, rfl, tup_of ht, rfl, _, _, rfl, _, _, rfl, _, _, rfl, _, _, rfl, rfl, ?_⟩
      k_upd
      have ela : ea.l = l + 1 := by omega
      have h0 := pow_pos2 l
      have w2 := pow_two l
      refine ⟨_, rfl, S.st, _, _, rfl, ho, rfl, _, rfl, S.st, _, _, rfl, ho, rfl, _, rfl, S, G, Z, l, a, ea, bs, ss, rfl, hS, by omega, q2, ela, fun H1 G1 p1 a0 a1 a2 a3 xa0 xa1 xa2 xa3 g1 tp1 ya0 ya1 ya2 ya3 la0 la1 la2 la3 eLa => ?_⟩
      refine ⟨p1, _, 3, _, rfl, rfl, tup_of (hide_le _ _ tp1), rfl, ?_⟩
      obtain ⟨dx1, ru1, ho1⟩ := g1.st.ob
      refine ⟨_, rfl, S.st, _, _, rfl, ho1, rfl, _, rfl, S, G1, Z + 4, l, b, eb, bs, ss, rfl, g1.st, by omega, preG g1.pre q3, by omega, fun H2 G2 p2 b0 b1 b2 b3 xb0 xb1 xb2 xb3 g2 tp2 yb0 yb1 yb2 yb3 lb0 lb1 lb2 lb3 eLb => ?_⟩
      refine ⟨p2, _, 2, _, rfl, rfl, tup_of (hide_le _ _ tp2), rfl, ?_⟩
      obtain ⟨dx2, ru2, ho2⟩ := g2.st.ob
      refine ⟨_, rfl, S.st, _, _, rfl, ho2, rfl, _, rfl, S, G2, Z + 4 + 4, l, c', ec, bs, ss, rfl, g2.st, by omega, preG g2.pre (preG g1.pre q4), by omega, fun H3 G3 p3 c0 c1 c2 c3 xc0 xc1 xc2 xc3 g3 tp3 yc0 yc1 yc2 yc3 lc0 lc1 lc2 lc3 eLc => ?_⟩
      refine ⟨p3, _, 1, _, rfl, rfl, tup_of (hide_le _ _ tp3), rfl, ?_⟩
      obtain ⟨dx3, ru3, ho3⟩ := g3.st.ob
      refine ⟨_, rfl, S.st, _, _, rfl, ho3, rfl, _, rfl, S, G3, Z + 4 + 4 + 4, l, d, ed, bs, ss, rfl, g3.st, by omega, preG g3.pre (preG g2.pre (preG g1.pre q5)), by omega, fun H4 G4 p4 d0 d1 d2 d3 xd0 xd1 xd2 xd3 g4 tp4 yd0 yd1 yd2 yd3 ld0 ld1 ld2 ld3 eLd => ?_⟩
      refine ⟨p4, _, 0, _, rfl, rfl, tup_of (hide_le _ _ tp4), rfl, ?_⟩
      have pa := g2.pre.trans (g3.pre.trans g4.pre)
      refine ⟨S, G4, Z + 4 + 4 + 4 + 4, l, a3, b2, c1, d0, xa3, xb2, xc1, xd0, bs, ss, rfl, g4.st, by omega, preG pa ya3, preG (g3.pre.trans g4.pre) yb2, preG g4.pre yc1, yd0, la3, lb2, lc1, ld0, fun H5 G5 m e' g5 em e'l e'L _ => ?_⟩
      refine q H5 G5 m e' (((((g1.trans g2).trans g3).trans g4).trans g5).more (by decide)) em e'l ?_
      rw [e'L, w2]
      rw [ela, w2] at eL
      obtain ⟨Qa, Qb, Qc, Qd⟩ := quad_subs (show 0 < 2 * ((2 ^ l : Nat) : Int) by omega) ea.L eb.L ec.L ed.L
      rw [← eL] at Qa Qb Qc Qd
      obtain ⟨_, _, _, A3⟩ := quad_subs h0 xa0.L xa1.L xa2.L xa3.L
      obtain ⟨_, _, B2, _⟩ := quad_subs h0 xb0.L xb1.L xb2.L xb3.L
      obtain ⟨_, C1, _, _⟩ := quad_subs h0 xc0.L xc1.L xc2.L xc3.L
      obtain ⟨D0, _, _, _⟩ := quad_subs h0 xd0.L xd1.L xd2.L xd3.L
      rw [← eLa] at A3
      rw [← eLb] at B2
      rw [← eLc] at C1
      rw [← eLd] at D0
      generalize ((2 ^ l : Nat) : Int) = p at *
      exact sub_quad ((Qa.trans A3 (by omega) (by omega) (by omega) (by omega)).at (by omega) (by omega)) ((Qb.trans B2 (by omega) (by omega) (by omega) (by omega)).at (by omega) (by omega)) ((Qc.trans C1 (by omega) (by omega) (by omega) (by omega)).at (by omega) (by omega)) ((Qd.trans D0 (by omega) (by omega) (by omega) (by omega)).at (by omega) (by omega))
end
end My
namespace My
open PySem PySem.Spec PyProof.Rows L2 Vx
open TL
local macro_rules | `(tactic| k_invariant "new" ($n, $H:ident, $e:ident, $h:ident)) => `(tactic| (generalize hE : upd _ _ _ = $H; obtain ⟨$e:ident, $h:ident⟩ := gen_e hE $n; clear hE))
local macro_rules | `(tactic| k_places) => `(tactic| first
  | assumption
  | exact lst_of (by assumption)
  | exact tup_of (by assumption)
  | (refine getS (by assumption) ?_; k_places)
  | (refine Same.seq (by assumption) ?_; k_places)
  | (refine tupS (by assumption) ?_; k_places)
  | (refine lst_of ?_; k_places)
  | (refine tup_of ?_; k_places))
local macro_rules | `(tactic| k_subL) => `(tactic| first
  | k_places
  | solve_by_elim (maxDepth := 10) [getS, lst_of, tup_of, Same.seq, tupS])
local macro_rules | `(tactic| k_offL) => `(tactic| first
  | (show (0 : Int) < _; first | omega | decide)
  | (refine ⟨?_, ?_⟩ <;> first | omega | decide)
  | exact .inr ⟨by decide, by decide⟩
  | exact .inl ⟨by decide, by decide⟩
  | exact .inl ⟨by omega, by omega⟩
  | omega)
local macro_rules | `(tactic| k_clsL) => `(tactic| exact Nat.le_of_ble_eq_true rfl)
local macro_rules | `(tactic| k_upd) => `(tactic| simp only [L2.start, List.map_cons, List.map_nil, List.length_cons, List.length_nil, List.replicate_succ, List.replicate_zero, List.cons_append, List.nil_append, List.set_cons_zero, List.set_cons_succ])
section
variable {P : Program} {w : World} {K : PySem.W.Frag} {mg : Str → Option Value} {base : Heap}
/-! ### nine squares of a square, four of nine -/
/-- a list of numbers tells squares that lie three by three (or two by two) -/
def Tiles (G : List Ent) (k : Nat) (ns : List Nat) (X : Int → Int → Bool) (l : Nat) (p x y : Int) : Prop := ∀ i j : Nat, i < k → j < k → ∃ (n : Nat) (u : Ent), ns[k * i + j]? = some n ∧ G[n]? = some u ∧ u.l = l ∧ Sub X ((2 ^ l : Nat) : Int) (x + (i : Int) * p) (y + (j : Int) * p) u.L
theorem Tiles.up {G G' : List Ent} {k l : Nat} {ns : List Nat} {X : Int → Int → Bool} {p x y : Int} (h : Tiles G k ns X l p x y) (pr : G <+: G') : Tiles G' k ns X l p x y := fun i j hi hj => by
  obtain ⟨n, u, h1, h2, h3⟩ := h i j hi hj
  exact ⟨n, u, h1, preG pr h2, h3⟩
def sp_nine (C CB CR : Addr) : Sp := fun vs H Q _ => ∃ (A : GA) (G : List Ent) (S l n : Nat) (e : Ent) (bs ss : List Int), vs = [.ref A.st, .int (n : Int)] ∧ GS C CB CR bs ss H A G S ∧ S < 7000000 ∧ G[n]? = some e ∧ e.l = l + 2 ∧ 4 ≤ l ∧
  ∀ (H' : Hp) (G' : List Ent) (p : Addr) (ns : List Nat), H p = none → Gg C CB CR bs ss A 21 H G S H' G' → H' p = some (.lst (intL ns)) → ns.length = 9 → Tiles G' 3 ns e.L (l + 1) ((2 ^ l : Nat) : Int) 0 0 → Q (.ref p) H'
theorem ok_Store_nine (T : Txt K mg) : FnOk P w K mg base CX0 4 T.f_Store_nine T.d_Store_nine ["self", "square"] (sp_nine T.C_Store T.C_Blocks T.C_Rule) := by
  refine T.F_Store_nine.ok sc_Store_nine (fun vs H Q E h => ?_) (fun cdv A outer s H vs Q E hr h => ?_)
  · obtain ⟨_, _, _, _, _, _, _, _, rfl, _⟩ := h
    rfl
  · obtain ⟨S, G, Z, l, n, e, bs, ss, rfl, hS, few, hn, el, hl, q⟩ := h
    obtain ⟨dx, ru, ho⟩ := hS.ob
    refine ⟨_, (pss_cons (ps_asg (pe_ix ix_list (pe_fld (pv 0) rfl) (pv 1) (fun _ _ => rfl)) (pg_tupK (K := K) (n := 4) rfl rfl (pgs_cons (pg_name (i := 2) sc_Store_nine.nd rfl (.inl rfl)) (pgs_cons (pg_name (i := 3) sc_Store_nine.nd rfl (.inl rfl)) (pgs_cons (pg_name (i := 4) sc_Store_nine.nd rfl (.inl rfl)) (pgs_cons (pg_name (i := 5) sc_Store_nine.nd rfl (.inl rfl)) pgs_nil))))))
      (pss_cons (ps_asg (pe_meth (pv 0) T.cl_Store T.m_Store_parts (ok_Store_parts T) (hr.mono (by decide)) T.b_Store_parts .nil pass0 (pa_cons (pv 2) pa_nil)) (pg_tupK (K := K) (n := 4) rfl rfl (pgs_cons (pg_name (i := 6) sc_Store_nine.nd rfl (.inl rfl)) (pgs_cons (pg_name (i := 7) sc_Store_nine.nd rfl (.inl rfl)) (pgs_cons (pg_name (i := 8) sc_Store_nine.nd rfl (.inl rfl)) (pgs_cons (pg_name (i := 9) sc_Store_nine.nd rfl (.inl rfl)) pgs_nil))))))
      (pss_cons (ps_asg (pe_meth (pv 0) T.cl_Store T.m_Store_parts (ok_Store_parts T) (hr.mono (by decide)) T.b_Store_parts .nil pass0 (pa_cons (pv 3) pa_nil)) (pg_tupK (K := K) (n := 4) rfl rfl (pgs_cons (pg_name (i := 10) sc_Store_nine.nd rfl (.inl rfl)) (pgs_cons (pg_name (i := 11) sc_Store_nine.nd rfl (.inl rfl)) (pgs_cons (pg_name (i := 12) sc_Store_nine.nd rfl (.inl rfl)) (pgs_cons (pg_name (i := 13) sc_Store_nine.nd rfl (.inl rfl)) pgs_nil))))))
      (pss_cons (ps_asg (pe_meth (pv 0) T.cl_Store T.m_Store_parts (ok_Store_parts T) (hr.mono (by decide)) T.b_Store_parts .nil pass0 (pa_cons (pv 4) pa_nil)) (pg_tupK (K := K) (n := 4) rfl rfl (pgs_cons (pg_name (i := 14) sc_Store_nine.nd rfl (.inl rfl)) (pgs_cons (pg_name (i := 15) sc_Store_nine.nd rfl (.inl rfl)) (pgs_cons (pg_name (i := 16) sc_Store_nine.nd rfl (.inl rfl)) (pgs_cons (pg_name (i := 17) sc_Store_nine.nd rfl (.inl rfl)) pgs_nil))))))
      (pss_cons (ps_asg (pe_meth (pv 0) T.cl_Store T.m_Store_parts (ok_Store_parts T) (hr.mono (by decide)) T.b_Store_parts .nil pass0 (pa_cons (pv 5) pa_nil)) (pg_tupK (K := K) (n := 4) rfl rfl (pgs_cons (pg_name (i := 18) sc_Store_nine.nd rfl (.inl rfl)) (pgs_cons (pg_name (i := 19) sc_Store_nine.nd rfl (.inl rfl)) (pgs_cons (pg_name (i := 20) sc_Store_nine.nd rfl (.inl rfl)) (pgs_cons (pg_name (i := 21) sc_Store_nine.nd rfl (.inl rfl)) pgs_nil))))))
      (pss_one (ps_ret (pe_lst (pa_cons (pv 2) (pa_cons (pe_meth (pv 0) T.cl_Store T.m_Store_joined (ok_Store_joined T) (hr.mono (by decide)) T.b_Store_joined .nil pass0 (pa_cons (pv 7) (pa_cons (pv 10) (pa_cons (pv 9) (pa_cons (pv 12) pa_nil))))) (pa_cons (pv 3) (pa_cons (pe_meth (pv 0) T.cl_Store T.m_Store_joined (ok_Store_joined T) (hr.mono (by decide)) T.b_Store_joined .nil pass0 (pa_cons (pv 8) (pa_cons (pv 9) (pa_cons (pv 14) (pa_cons (pv 15) pa_nil))))) (pa_cons (pe_meth (pv 0) T.cl_Store T.m_Store_joined (ok_Store_joined T) (hr.mono (by decide)) T.b_Store_joined .nil pass0 (pa_cons (pv 9) (pa_cons (pv 12) (pa_cons (pv 15) (pa_cons (pv 18) pa_nil))))) (pa_cons (pe_meth (pv 0) T.cl_Store T.m_Store_joined (ok_Store_joined T) (hr.mono (by decide)) T.b_Store_joined .nil pass0 (pa_cons (pv 12) (pa_cons (pv 13) (pa_cons (pv 18) (pa_cons (pv 19) pa_nil))))) (pa_cons (pv 4) (pa_cons (pe_meth (pv 0) T.cl_Store T.m_Store_joined (ok_Store_joined T) (hr.mono (by decide)) T.b_Store_joined .nil pass0 (pa_cons (pv 15) (pa_cons (pv 18) (pa_cons (pv 17) (pa_cons (pv 20) pa_nil))))) (pa_cons (pv 5) pa_nil))))))))))))))))), ?_⟩
    k_upd
    obtain ⟨us, gp, lus, tus⟩ := hS.pt
    obtain ⟨t, t1, t2⟩ := tus n e hn (by omega)
    obtain ⟨a, b, c', d, ea, eb, ec, ed, q1, q2, q3, q4, q5, l1, l2, l3, l4, eL⟩ := (hS.wf n e hn).large (by omega)
    rw [q1] at t2
    have ht := hide_le _ _ t2
    have ela : ea.l = l + 1 := by omega
    have h0 := pow_pos2 l
    have w2 := pow_two l
    refine ⟨_, rfl, S.st, _, _, _, _, rfl, ho, T.cl_Store, T.na_Store__parts, rfl, _, rfl, _, _, _, _, rfl, rfl, lst_of gp, atI_nat t1, ?_⟩
    refine ⟨t, _, rfl, tup_of ht, rfl, _, _, rfl, _, _, rfl, _, _, rfl, _, _, rfl, rfl, ?_⟩
    k_upd
    refine ⟨_, rfl, S.st, _, _, rfl, ho, rfl, _, rfl, S, G, Z, l, a, ea, bs, ss, rfl, hS, by omega, q2, ela, fun H1 G1 p1 a0 a1 a2 a3 xa0 xa1 xa2 xa3 g1 tp1 ya0 ya1 ya2 ya3 la0 la1 la2 la3 eLa => ?_⟩
    refine ⟨p1, _, rfl, tup_of (hide_le _ _ tp1), rfl, _, _, rfl, _, _, rfl, _, _, rfl, _, _, rfl, rfl, ?_⟩
    k_upd
    obtain ⟨dx1, ru1, ho1⟩ := g1.st.ob
    refine ⟨_, rfl, S.st, _, _, rfl, ho1, rfl, _, rfl, S, G1, Z + 4, l, b, eb, bs, ss, rfl, g1.st, by omega, preG g1.pre q3, by omega, fun H2 G2 p2 b0 b1 b2 b3 xb0 xb1 xb2 xb3 g2 tp2 yb0 yb1 yb2 yb3 lb0 lb1 lb2 lb3 eLb => ?_⟩
    refine ⟨p2, _, rfl, tup_of (hide_le _ _ tp2), rfl, _, _, rfl, _, _, rfl, _, _, rfl, _, _, rfl, rfl, ?_⟩
    k_upd
    obtain ⟨dx2, ru2, ho2⟩ := g2.st.ob
    refine ⟨_, rfl, S.st, _, _, rfl, ho2, rfl, _, rfl, S, G2, Z + 4 + 4, l, c', ec, bs, ss, rfl, g2.st, by omega, preG g2.pre (preG g1.pre q4), by omega, fun H3 G3 p3 c0 c1 c2 c3 xc0 xc1 xc2 xc3 g3 tp3 yc0 yc1 yc2 yc3 lc0 lc1 lc2 lc3 eLc => ?_⟩
    refine ⟨p3, _, rfl, tup_of (hide_le _ _ tp3), rfl, _, _, rfl, _, _, rfl, _, _, rfl, _, _, rfl, rfl, ?_⟩
    k_upd
    obtain ⟨dx3, ru3, ho3⟩ := g3.st.ob
    refine ⟨_, rfl, S.st, _, _, rfl, ho3, rfl, _, rfl, S, G3, Z + 4 + 4 + 4, l, d, ed, bs, ss, rfl, g3.st, by omega, preG g3.pre (preG g2.pre (preG g1.pre q5)), by omega, fun H4 G4 p4 d0 d1 d2 d3 xd0 xd1 xd2 xd3 g4 tp4 yd0 yd1 yd2 yd3 ld0 ld1 ld2 ld3 eLd => ?_⟩
    refine ⟨p4, _, rfl, tup_of (hide_le _ _ tp4), rfl, _, _, rfl, _, _, rfl, _, _, rfl, _, _, rfl, rfl, ?_⟩
    k_upd
    obtain ⟨dx4, ru4, ho4⟩ := g4.st.ob
    have pb := g3.pre.trans g4.pre
    have pa := g2.pre.trans pb
    refine ⟨_, rfl, _, rfl, S.st, _, _, rfl, ho4, rfl, _, rfl, _, rfl, _, rfl, _, rfl, S, G4, Z + 4 + 4 + 4 + 4, l, a1, b0, a3, b2, xa1, xb0, xa3, xb2, bs, ss, rfl, g4.st, by omega, preG pa ya1, preG pb yb0, preG pa ya3, preG pb yb2, la1, lb0, la3, lb2, fun H5 G5 m01 e01 g5 y01 l01 L01 _ => ?_⟩
    obtain ⟨dx5, ru5, ho5⟩ := g5.st.ob
    have r5 : ∀ {n : Nat} {u : Ent}, G4[n]? = some u → G5[n]? = some u := fun h => preG g5.pre h
    refine ⟨_, rfl, _, rfl, S.st, _, _, rfl, ho5, rfl, _, rfl, _, rfl, _, rfl, _, rfl, S, G5, Z + 4 + 4 + 4 + 4 + 1, l, a2, a3, c0, c1, xa2, xa3, xc0, xc1, bs, ss, rfl, g5.st, by omega, r5 (preG pa ya2), r5 (preG pa ya3), r5 (preG g4.pre yc0), r5 (preG g4.pre yc1), la2, la3, lc0, lc1, fun H6 G6 m10 e10 g6 y10 l10 L10 _ => ?_⟩
    obtain ⟨dx6, ru6, ho6⟩ := g6.st.ob
    have r6 : ∀ {n : Nat} {u : Ent}, G4[n]? = some u → G6[n]? = some u := fun h => preG g6.pre (r5 h)
    refine ⟨_, rfl, S.st, _, _, rfl, ho6, rfl, _, rfl, _, rfl, _, rfl, _, rfl, S, G6, Z + 4 + 4 + 4 + 4 + 1 + 1, l, a3, b2, c1, d0, xa3, xb2, xc1, xd0, bs, ss, rfl, g6.st, by omega, r6 (preG pa ya3), r6 (preG pb yb2), r6 (preG g4.pre yc1), r6 yd0, la3, lb2, lc1, ld0, fun H7 G7 m11 e11 g7 y11 l11 L11 _ => ?_⟩
    obtain ⟨dx7, ru7, ho7⟩ := g7.st.ob
    have r7 : ∀ {n : Nat} {u : Ent}, G4[n]? = some u → G7[n]? = some u := fun h => preG g7.pre (r6 h)
    refine ⟨_, rfl, S.st, _, _, rfl, ho7, rfl, _, rfl, _, rfl, _, rfl, _, rfl, S, G7, Z + 4 + 4 + 4 + 4 + 1 + 1 + 1, l, b2, b3, d0, d1, xb2, xb3, xd0, xd1, bs, ss, rfl, g7.st, by omega, r7 (preG pb yb2), r7 (preG pb yb3), r7 yd0, r7 yd1, lb2, lb3, ld0, ld1, fun H8 G8 m12 e12 g8 y12 l12 L12 _ => ?_⟩
    obtain ⟨dx8, ru8, ho8⟩ := g8.st.ob
    have r8 : ∀ {n : Nat} {u : Ent}, G4[n]? = some u → G8[n]? = some u := fun h => preG g8.pre (r7 h)
    refine ⟨_, rfl, _, rfl, S.st, _, _, rfl, ho8, rfl, _, rfl, _, rfl, _, rfl, _, rfl, S, G8, Z + 4 + 4 + 4 + 4 + 1 + 1 + 1 + 1, l, c1, d0, c3, d2, xc1, xd0, xc3, xd2, bs, ss, rfl, g8.st, by omega, r8 (preG g4.pre yc1), r8 yd0, r8 (preG g4.pre yc3), r8 yd2, lc1, ld0, lc3, ld2, fun H9 G9 m21 e21 g9 y21 l21 L21 _ => ?_⟩
    refine ⟨_, rfl, (by k_clsL), fun p np => ?_⟩
    have gt := ((((((((g1.trans g2).trans g3).trans g4).trans g5).trans g6).trans g7).trans g8).trans g9)
    have r9 : ∀ {n : Nat} {u : Ent}, G4[n]? = some u → G9[n]? = some u := fun h => preG g9.pre (r8 h)
    have np0 : H p = none := by
      cases hp : H p with
      | none => rfl
      | some o =>
        rw [gt.fresh hp (gt.st.off np)] at np
        cases np
    have gl := gt.loc (o := .lst (intL [a, m01, b, m10, m11, m12, c', m21, d])) hS np0 fun xs z => by rw [np] at z; cases z
    refine q _ G9 p [a, m01, b, m10, m11, m12, c', m21, d] np0 (gl.more (by decide)) upd_same rfl ?_
    rw [ela, w2] at eL
    obtain ⟨Qa, Qb, Qc, Qd⟩ := quad_subs (show 0 < 2 * ((2 ^ l : Nat) : Int) by omega) ea.L eb.L ec.L ed.L
    rw [← eL] at Qa Qb Qc Qd
    obtain ⟨A0, A1, A2, A3⟩ := quad_subs h0 xa0.L xa1.L xa2.L xa3.L
    obtain ⟨B0, B1, B2, B3⟩ := quad_subs h0 xb0.L xb1.L xb2.L xb3.L
    obtain ⟨C0, C1, C2, C3⟩ := quad_subs h0 xc0.L xc1.L xc2.L xc3.L
    obtain ⟨D0, D1, D2, D3⟩ := quad_subs h0 xd0.L xd1.L xd2.L xd3.L
    rw [← eLa] at A1 A2 A3
    rw [← eLb] at B0 B2 B3
    rw [← eLc] at C0 C1 C3
    rw [← eLd] at D0 D1 D2
    have lift : ∀ {n : Nat} {u : Ent}, G[n]? = some u → G9[n]? = some u := fun h => preG gl.pre h
    have y01 := preG (g6.pre.trans (g7.pre.trans (g8.pre.trans g9.pre))) y01
    have y10 := preG (g7.pre.trans (g8.pre.trans g9.pre)) y10
    have y11 := preG (g8.pre.trans g9.pre) y11
    have y12 := preG g9.pre y12
    intro i j hi hj
    rw [w2]
    generalize ((2 ^ l : Nat) : Int) = pp at *
    have T2 : ∀ {M N : Int → Int → Bool} {x y u v : Int}, Sub e.L (2 * pp) x y M → Sub M pp u v N → 0 ≤ u → u + pp ≤ 2 * pp → 0 ≤ v → v + pp ≤ 2 * pp → Sub e.L pp (x + u) (y + v) N := fun h h' a b c d => h.trans h' a b c d
    have ci : i = 0 ∨ i = 1 ∨ i = 2 := by omega
    have cj : j = 0 ∨ j = 1 ∨ j = 2 := by omega
    rcases ci with rfl | rfl | rfl <;> rcases cj with rfl | rfl | rfl
    · exact ⟨a, ea, rfl, lift q2, ela, Qa.at (by omega) (by omega)⟩
    · refine ⟨m01, e01, rfl, y01, l01, ?_⟩
      rw [L01]
      exact sub_quad ((T2 Qa A1 (by omega) (by omega) (by omega) (by omega)).at (by omega) (by omega)) ((T2 Qb B0 (by omega) (by omega) (by omega) (by omega)).at (by omega) (by omega)) ((T2 Qa A3 (by omega) (by omega) (by omega) (by omega)).at (by omega) (by omega)) ((T2 Qb B2 (by omega) (by omega) (by omega) (by omega)).at (by omega) (by omega))
    · exact ⟨b, eb, rfl, lift q3, by omega, Qb.at (by omega) (by omega)⟩
    · refine ⟨m10, e10, rfl, y10, l10, ?_⟩
      rw [L10]
      exact sub_quad ((T2 Qa A2 (by omega) (by omega) (by omega) (by omega)).at (by omega) (by omega)) ((T2 Qa A3 (by omega) (by omega) (by omega) (by omega)).at (by omega) (by omega)) ((T2 Qc C0 (by omega) (by omega) (by omega) (by omega)).at (by omega) (by omega)) ((T2 Qc C1 (by omega) (by omega) (by omega) (by omega)).at (by omega) (by omega))
    · refine ⟨m11, e11, rfl, y11, l11, ?_⟩
      rw [L11]
      exact sub_quad ((T2 Qa A3 (by omega) (by omega) (by omega) (by omega)).at (by omega) (by omega)) ((T2 Qb B2 (by omega) (by omega) (by omega) (by omega)).at (by omega) (by omega)) ((T2 Qc C1 (by omega) (by omega) (by omega) (by omega)).at (by omega) (by omega)) ((T2 Qd D0 (by omega) (by omega) (by omega) (by omega)).at (by omega) (by omega))
    · refine ⟨m12, e12, rfl, y12, l12, ?_⟩
      rw [L12]
      exact sub_quad ((T2 Qb B2 (by omega) (by omega) (by omega) (by omega)).at (by omega) (by omega)) ((T2 Qb B3 (by omega) (by omega) (by omega) (by omega)).at (by omega) (by omega)) ((T2 Qd D0 (by omega) (by omega) (by omega) (by omega)).at (by omega) (by omega)) ((T2 Qd D1 (by omega) (by omega) (by omega) (by omega)).at (by omega) (by omega))
    · exact ⟨c', ec, rfl, lift q4, by omega, Qc.at (by omega) (by omega)⟩
    · refine ⟨m21, e21, rfl, y21, l21, ?_⟩
      rw [L21]
      exact sub_quad ((T2 Qc C1 (by omega) (by omega) (by omega) (by omega)).at (by omega) (by omega)) ((T2 Qd D0 (by omega) (by omega) (by omega) (by omega)).at (by omega) (by omega)) ((T2 Qc C3 (by omega) (by omega) (by omega) (by omega)).at (by omega) (by omega)) ((T2 Qd D2 (by omega) (by omega) (by omega) (by omega)).at (by omega) (by omega))
    · exact ⟨d, ed, rfl, lift q5, by omega, Qd.at (by omega) (by omega)⟩
end
end My
namespace My
open PySem PySem.Spec PyProof.Rows L2 Vx
open TL
local macro_rules | `(tactic| k_invariant "new" ($n, $H:ident, $e:ident, $h:ident)) => `(tactic| (generalize hE : upd _ _ _ = $H; obtain ⟨$e:ident, $h:ident⟩ := gen_e hE $n; clear hE))
local macro_rules | `(tactic| k_places) => `(tactic| first
  | assumption
  | exact lst_of (by assumption)
  | exact tup_of (by assumption)
  | (refine getS (by assumption) ?_; k_places)
  | (refine Same.seq (by assumption) ?_; k_places)
  | (refine tupS (by assumption) ?_; k_places)
  | (refine lst_of ?_; k_places)
  | (refine tup_of ?_; k_places))
local macro_rules | `(tactic| k_subL) => `(tactic| first
  | k_places
  | solve_by_elim (maxDepth := 10) [getS, lst_of, tup_of, Same.seq, tupS])
local macro_rules | `(tactic| k_offL) => `(tactic| first
  | (show (0 : Int) < _; first | omega | decide)
  | (refine ⟨?_, ?_⟩ <;> first | omega | decide)
  | exact .inr ⟨by decide, by decide⟩
  | exact .inl ⟨by decide, by decide⟩
  | exact .inl ⟨by omega, by omega⟩
  | omega)
local macro_rules | `(tactic| k_clsL) => `(tactic| exact Nat.le_of_ble_eq_true rfl)
local macro_rules | `(tactic| k_upd) => `(tactic| simp only [L2.start, List.map_cons, List.map_nil, List.length_cons, List.length_nil, List.replicate_succ, List.replicate_zero, List.cons_append, List.nil_append, List.set_cons_zero, List.set_cons_succ])
section
variable {P : Program} {w : World} {K : PySem.W.Frag} {mg : Str → Option Value} {base : Heap}
theorem intL_ix {es : List Nat} {i n : Nat} {z : Int} (h : es[i]? = some n) (e : z = (i : Int)) : atI (intL es) z = some (.int (n : Int)) := by
  rw [e]
  exact intL_at h
def sp_four (C CB CR : Addr) : Sp := fun vs H Q _ => ∃ (A : GA) (G : List Ent) (S m : Nat) (p : Addr) (ns : List Nat) (X : Int → Int → Bool) (x y : Int) (bs ss : List Int), vs = [.ref A.st, .ref p] ∧ GS C CB CR bs ss H A G S ∧ S < 8000000 ∧ H p = some (.lst (intL ns)) ∧ p ∉ A.M ∧ Tiles G 3 ns X m ((2 ^ m : Nat) : Int) x y ∧
  ∀ (H' : Hp) (G' : List Ent) (q : Addr) (qs : List Nat), H q = none → Gg C CB CR bs ss A 4 H G S H' G' → H' q = some (.lst (intL qs)) → qs.length = 4 → Tiles G' 2 qs X (m + 1) ((2 ^ m : Nat) : Int) x y → Q (.ref q) H'
theorem ok_Store_four (T : Txt K mg) : FnOk P w K mg base CX0 4 T.f_Store_four T.d_Store_four ["self", "nine"] (sp_four T.C_Store T.C_Blocks T.C_Rule) := by
  refine T.F_Store_four.ok sc_Store_four (fun vs H Q E h => ?_) (fun cdv A outer s H vs Q E hr h => ?_)
  · obtain ⟨_, _, _, _, _, _, _, _, _, _, _, rfl, _⟩ := h
    rfl
  · obtain ⟨S, G, Z, m, np, ns, X, x, y, bs, ss, rfl, hS, few, hp, npM, tl, q⟩ := h
    refine ⟨_, (pss_one (ps_ret (pe_lc (own := [("at", 2)]) (g := gName 2) (tt := tYes) rfl sc_Store_four.nd (pi_tup (pe_tup (pa_cons pe_int (pa_cons pe_int (pa_cons pe_int (pa_cons pe_int pa_nil)))))) (blkOk_by (own := [("at", 2)]) (N := N_Store_four) (sc := defScope s_Store_four) (by decide +kernel)) (fun _ _ _ _ _ => pg_name (i := 2) sc_Store_four.nd rfl (Or.inl rfl)) (fun _ _ _ _ _ => pts_nil) (fun _ _ _ _ _ => (pe_meth (pv 0) T.cl_Store T.m_Store_joined (ok_Store_joined T) (hr.mono (by decide)) T.b_Store_joined .nil pass0 (pa_cons (pe_ix (ix_listK (K := K) rfl) (pv 1) (pv 2) (fun _ _ => rfl)) (pa_cons (pe_ix (ix_listK (K := K) rfl) (pv 1) (pe_op op_add (pv 2) pe_int) (fun _ _ => rfl)) (pa_cons (pe_ix (ix_listK (K := K) rfl) (pv 1) (pe_op op_add (pv 2) pe_int) (fun _ _ => rfl)) (pa_cons (pe_ix (ix_listK (K := K) rfl) (pv 1) (pe_op op_add (pv 2) pe_int) (fun _ _ => rfl)) pa_nil))))))))), ?_⟩
    refine ⟨(by k_clsL), fun tp ntp => ?_⟩
    k_invariant "new" (ntp, H1, e1, h1)
    have hS1 := hS.up e1
    have tM := hS.off ntp
    have w2 := pow_two m
    refine ⟨tp, rfl, ⟨_, tup_of h1⟩, fun D nD => ?_⟩
    have DM := hS1.off nD
    have nD0 := backS e1 nD
    have nDt : tp ≠ D := fun e => by rw [← e, h1] at nD; cases nD
    have nDp : np ≠ D := fun e => by rw [← e, e1 _ _ hp] at nD; cases nD
    refine lc_tup (K := K) (a := tp) (xs := [.int 0, .int 1, .int 3, .int 4]) (fun i H' => ∃ (G' : List Ent) (qs : List Nat), Gg T.C_Store T.C_Blocks T.C_Rule bs ss S i H G Z H' G' ∧ H' D = some (.lst (intL qs)) ∧ qs.length = i ∧ (∀ k : Nat, k < i → ∃ (n : Nat) (u : Ent), qs[k]? = some n ∧ G'[n]? = some u ∧ u.l = m + 1 ∧ Sub X ((2 ^ (m + 1) : Nat) : Int) (x + ((k / 2 : Nat) : Int) * ((2 ^ m : Nat) : Int)) (y + ((k % 2 : Nat) : Int) * ((2 ^ m : Nat) : Int)) u.L) ∧ H' np = some (.lst (intL ns)) ∧ H' tp = some (.tup [.int 0, .int 1, .int 3, .int 4]))
      ⟨G, [], (Gg.refl 0 hS).same (e1.trans (newS nD)), upd_same, rfl, fun k h => absurd h (Nat.not_lt_zero _), by rw [upd_ne nDp]; exact e1 _ _ hp, by rw [upd_ne nDt]; exact h1⟩ (fun i H' _ g => tup_of g.choose_spec.choose_spec.2.2.2.2.2) ?_ ?_
    · rintro i x' H' hi ⟨G', qs, hg, hD, lq, hq, hp', ht'⟩
      have li : i < 4 := (List.getElem?_eq_some_iff.mp hi).1
      obtain ⟨a, b, ea, eb, ei, la, lb⟩ : ∃ a b : Nat, i / 2 = a ∧ i % 2 = b ∧ x' = V.int ((3 * a + b : Nat) : Int) ∧ a < 2 ∧ b < 2 := by
        have ci : i = 0 ∨ i = 1 ∨ i = 2 ∨ i = 3 := by omega
        rcases ci with rfl | rfl | rfl | rfl <;> exact ⟨_, _, rfl, rfl, (Option.some.inj hi).symm, by decide, by decide⟩
      subst ei
      have tl' := tl.up hg.pre
      obtain ⟨n0, u0, a0, b0, c0, d0⟩ := tl' a b (by omega) (by omega)
      obtain ⟨n1, u1, a1, b1, c1, d1⟩ := tl' a (b + 1) (by omega) (by omega)
      obtain ⟨n2, u2, a2, b2, c2, d2⟩ := tl' (a + 1) b (by omega) (by omega)
      obtain ⟨n3, u3, a3, b3, c3, d3⟩ := tl' (a + 1) (b + 1) (by omega) (by omega)
      obtain ⟨dx, ru, ho⟩ := hg.st.ob
      refine ⟨rfl, tyesT ?_⟩
      refine ⟨_, rfl, S.st, _, _, rfl, ho, rfl, _, rfl, _, rfl, _, _, _, _, rfl, rfl, lst_of hp', intL_ix a0 rfl, ?_⟩
      refine ⟨_, rfl, _, rfl, _, _, rfl, rfl, _, _, _, _, rfl, rfl, lst_of hp', intL_ix a1 (by omega), ?_⟩
      refine ⟨_, rfl, _, rfl, _, _, rfl, rfl, _, _, _, _, rfl, rfl, lst_of hp', intL_ix a2 (by omega), ?_⟩
      refine ⟨_, rfl, _, rfl, _, _, rfl, rfl, _, _, _, _, rfl, rfl, lst_of hp', intL_ix a3 (by omega), ?_⟩
      refine ⟨S, G', Z + i, m, n0, n1, n2, n3, u0, u1, u2, u3, bs, ss, rfl, hg.st, by omega, b0, b1, b2, b3, c0, c1, c2, c3, fun H2 G2 k u g2 ek uk uL _ => ?_⟩
      have hD2 := g2.fresh hD DM
      refine ⟨_, hD2, ?_, G2, qs ++ [k], (hg.trans g2).loc hS nD0 (fun xs z => by rw [hD2] at z; cases z), ?_, by rw [List.length_append, lq]; rfl, fun k' hk => ?_, ?_, ?_⟩
      · unfold intL
        rw [List.length_map, sizeLine_eq]
        omega
      · rw [upd_same]
        unfold intL
        rw [List.map_append]
        rfl
      · by_cases c : k' < i
        · obtain ⟨n, v, v1, v2, v3⟩ := hq k' c
          exact ⟨n, v, by rw [List.getElem?_append_left (by omega)]; exact v1, preG g2.pre v2, v3⟩
        · obtain rfl : k' = i := by omega
          refine ⟨k, u, by rw [List.getElem?_append_right (by omega), lq, Nat.sub_self]; rfl, ek, uk, ?_⟩
          rw [uL, w2, ea, eb]
          exact sub_quad d0 (d1.at rfl (by rw [Int.natCast_add, Int.add_mul]; omega)) (d2.at (by rw [Int.natCast_add, Int.add_mul]; omega) rfl) (d3.at (by rw [Int.natCast_add, Int.add_mul]; omega) (by rw [Int.natCast_add, Int.add_mul]; omega))
      · rw [upd_ne nDp]
        exact g2.fresh hp' npM
      · rw [upd_ne nDt]
        exact g2.fresh ht' tM
    · rintro H' ⟨G', qs, hg, hD, lq, hq, _⟩
      refine q H' G' D qs nD0 hg hD lq fun i j hi hj => ?_
      obtain ⟨n, u, v1, v2, v3, v4⟩ := hq (2 * i + j) (by show _ < 4; omega)
      refine ⟨n, u, v1, v2, v3, ?_⟩
      rw [show (2 * i + j) / 2 = i by omega, show (2 * i + j) % 2 = j by omega] at v4
      exact v4
end
end My
namespace My
open PySem PySem.Spec PyProof.Rows L2 Vx
open TL
local macro_rules | `(tactic| k_invariant "new" ($n, $H:ident, $e:ident, $h:ident)) => `(tactic| (generalize hE : upd _ _ _ = $H; obtain ⟨$e:ident, $h:ident⟩ := gen_e hE $n; clear hE))
local macro_rules | `(tactic| k_places) => `(tactic| first
  | assumption
  | exact lst_of (by assumption)
  | exact tup_of (by assumption)
  | (refine getS (by assumption) ?_; k_places)
  | (refine Same.seq (by assumption) ?_; k_places)
  | (refine tupS (by assumption) ?_; k_places)
  | (refine lst_of ?_; k_places)
  | (refine tup_of ?_; k_places))
local macro_rules | `(tactic| k_subL) => `(tactic| first
  | k_places
  | solve_by_elim (maxDepth := 10) [getS, lst_of, tup_of, Same.seq, tupS])
local macro_rules | `(tactic| k_offL) => `(tactic| first
  | (show (0 : Int) < _; first | omega | decide)
  | (refine ⟨?_, ?_⟩ <;> first | omega | decide)
  | exact .inr ⟨by decide, by decide⟩
  | exact .inl ⟨by decide, by decide⟩
  | exact .inl ⟨by omega, by omega⟩
  | omega)
local macro_rules | `(tactic| k_clsL) => `(tactic| exact Nat.le_of_ble_eq_true rfl)
local macro_rules | `(tactic| k_upd) => `(tactic| simp only [L2.start, List.map_cons, List.map_nil, List.length_cons, List.length_nil, List.replicate_succ, List.replicate_zero, List.cons_append, List.nil_append, List.set_cons_zero, List.set_cons_succ])
section
variable {P : Program} {w : World} {K : PySem.W.Frag} {mg : Str → Option Value} {base : Heap}
theorem nb_shift (M : Int → Int → Bool) (a b r c : Int) : nb (fun r c => M (a + r) (b + c)) r c = nb M (a + r) (b + c) := by
  have h1 : a + (r - 1) = a + r - 1 := by omega
  have h2 : a + (r + 1) = a + r + 1 := by omega
  have h3 : b + (c - 1) = b + c - 1 := by omega
  have h4 : b + (c + 1) = b + c + 1 := by omega
  unfold nb
  dsimp only
  rw [h1, h2, h3, h4]
theorem genL_shift (bs ss : List Int) (L : Int → Int → Bool) (a b : Int) : ∀ n r c, genL bs ss (fun r c => L (a + r) (b + c)) n r c = genL bs ss L n (a + r) (b + c)
  | 0, _, _ => rfl
  | n + 1, r, c => by
    have ih := genL_shift bs ss L a b n
    have e : genL bs ss (fun r c => L (a + r) (b + c)) n = fun r c => genL bs ss L n (a + r) (b + c) := funext fun r => funext fun c => ih r c
    show stepL bs ss (genL bs ss (fun r c => L (a + r) (b + c)) n) r c = stepL bs ss (genL bs ss L n) (a + r) (b + c)
    rw [e]
    unfold stepL
    rw [nb_shift]
theorem genL_dead {bs ss : List Int} (hb : ∀ b ∈ bs, 1 ≤ b ∧ b ≤ 8) : ∀ n, genL bs ss (fun _ _ => false) n = fun _ _ => false
  | 0 => rfl
  | n + 1 => by
    show stepL bs ss (genL bs ss (fun _ _ => false) n) = _
    rw [genL_dead hb n]
    refine funext fun r => funext fun c => ?_
    unfold stepL
    rw [if_neg Bool.false_ne_true]
    refine decide_eq_false fun m => ?_
    have := hb _ m
    unfold nb at this
    simp at this
theorem genL_add (bs ss : List Int) (L : Int → Int → Bool) (m : Nat) : ∀ n, genL bs ss L (m + n) = genL bs ss (genL bs ss L m) n
  | 0 => rfl
  | n + 1 => by
    show stepL bs ss (genL bs ss L (m + n)) = stepL bs ss (genL bs ss (genL bs ss L m) n)
    rw [genL_add bs ss L m n]
theorem genL_local {bs ss : List Int} {L M : Int → Int → Bool} {x0 x1 y0 y1 : Int} (h : ∀ r c, x0 ≤ r → r < x1 → y0 ≤ c → c < y1 → L r c = M r c) : ∀ (n : Nat) (r c : Int), x0 + (n : Int) ≤ r → r < x1 - (n : Int) → y0 + (n : Int) ≤ c → c < y1 - (n : Int) → genL bs ss L n r c = genL bs ss M n r c
  | 0, r, c, a, b, d, e => h r c (by omega) (by omega) (by omega) (by omega)
  | n + 1, r, c, a, b, d, e => by
    have ih := genL_local (bs := bs) (ss := ss) h n
    show stepL bs ss (genL bs ss L n) r c = stepL bs ss (genL bs ss M n) r c
    have z : nb (genL bs ss L n) r c = nb (genL bs ss M n) r c := by
      unfold nb
      rw [ih (r - 1) (c - 1), ih (r - 1) c, ih (r - 1) (c + 1), ih r (c - 1), ih r (c + 1), ih (r + 1) (c - 1), ih (r + 1) c, ih (r + 1) (c + 1)] <;> omega
    unfold stepL
    rw [z, ih r c (by omega) (by omega) (by omega) (by omega)]
theorem fut_sub {bs ss : List Int} {L M M' : Int → Int → Bool} {l t : Nat} {x y : Int} (h : Sub L ((2 ^ (l + 2) : Nat) : Int) x y M) (hf : FutL bs ss (l + 2) t M M') (ht : t ≤ l) : Sub (genL bs ss L (2 ^ t)) ((2 ^ (l + 1) : Nat) : Int) (x + ((2 ^ l : Nat) : Int)) (y + ((2 ^ l : Nat) : Int)) M' := fun r c a b d e => by
  have h1 := hf r c a b d e
  rw [show l + 2 - 2 = l by omega] at h1
  rw [h1]
  have tl : 2 ^ t ≤ 2 ^ l := Nat.pow_le_pow_right (by decide) ht
  have w1 := pow_two l
  have w2 : ((2 ^ (l + 2) : Nat) : Int) = 2 * ((2 ^ (l + 1) : Nat) : Int) := pow_two (l + 1)
  rw [genL_local (M := fun r c => L (x + r) (y + c)) (x0 := 0) (x1 := ((2 ^ (l + 2) : Nat) : Int)) (y0 := 0) (y1 := ((2 ^ (l + 2) : Nat) : Int)) (fun r c a b d e => by rw [h r c a b d e, Int.add_comm r, Int.add_comm c]) _ _ _ (by omega) (by omega) (by omega) (by omega), genL_shift]
  congr 1 <;> omega
theorem blL_cor {b l : Nat} (hl : l < 6) : Cor b (blL b) 0 (2 ^ l) := fun r c _ hr _ hc => by
  have := pow_le32 hl
  unfold blL
  rw [decide_eq_true (by omega), Bool.true_and, Int.toNat_natCast, Int.toNat_natCast]
theorem fut_small {bs ss : List Int} (hb : ∀ b ∈ bs, 1 ≤ b ∧ b ≤ 8) (hss : ∀ b ∈ ss, 0 ≤ b ∧ b ≤ 8) {l j b : Nat} (hl : l < 4) (hj : j ≤ l) : FutL bs ss (l + 2) j (blL b) (blL (cutN (l + 1) (iterBlk bs ss (2 ^ j) b) (2 ^ l) (2 ^ l))) := fun r c a h1 d h2 => by
  rw [show l + 2 - 1 = l + 1 by omega] at h1 h2
  rw [show l + 2 - 2 = l by omega]
  obtain ⟨x, rfl⟩ := Int.eq_ofNat_of_zero_le a
  obtain ⟨y, rfl⟩ := Int.eq_ofNat_of_zero_le d
  have h32 := pow_le32 (show l + 1 < 6 by omega)
  have q := centre_cor hb hss (l := l) (n := 2 ^ j) hl (Nat.pow_le_pow_right (by decide) hj) (blL_cor (b := b) (by omega)) (r := x) (c := y) (by omega) (by omega)
  rw [show ((2 ^ l + x : Nat) : Int) = (x : Int) + ((2 ^ l : Nat) : Int) by rw [Int.natCast_add, Int.add_comm], show ((2 ^ l + y : Nat) : Int) = (y : Int) + ((2 ^ l : Nat) : Int) by rw [Int.natCast_add, Int.add_comm]] at q
  rw [← q]
  generalize iterBlk bs ss (2 ^ j) b = z
  unfold blL
  rw [decide_eq_true (by omega), Bool.true_and, Int.toNat_natCast, Int.toNat_natCast]
end
end My
namespace My
open PySem PySem.Spec PyProof.Rows L2 Vx
open TL
local macro_rules | `(tactic| k_invariant "new" ($n, $H:ident, $e:ident, $h:ident)) => `(tactic| (generalize hE : upd _ _ _ = $H; obtain ⟨$e:ident, $h:ident⟩ := gen_e hE $n; clear hE))
local macro_rules | `(tactic| k_places) => `(tactic| first
  | assumption
  | exact lst_of (by assumption)
  | exact tup_of (by assumption)
  | (refine getS (by assumption) ?_; k_places)
  | (refine Same.seq (by assumption) ?_; k_places)
  | (refine tupS (by assumption) ?_; k_places)
  | (refine lst_of ?_; k_places)
  | (refine tup_of ?_; k_places))
local macro_rules | `(tactic| k_subL) => `(tactic| first
  | k_places
  | solve_by_elim (maxDepth := 10) [getS, lst_of, tup_of, Same.seq, tupS])
local macro_rules | `(tactic| k_offL) => `(tactic| first
  | (show (0 : Int) < _; first | omega | decide)
  | (refine ⟨?_, ?_⟩ <;> first | omega | decide)
  | exact .inr ⟨by decide, by decide⟩
  | exact .inl ⟨by decide, by decide⟩
  | exact .inl ⟨by omega, by omega⟩
  | omega)
local macro_rules | `(tactic| k_clsL) => `(tactic| exact Nat.le_of_ble_eq_true rfl)
local macro_rules | `(tactic| k_upd) => `(tactic| simp only [L2.start, List.map_cons, List.map_nil, List.length_cons, List.length_nil, List.replicate_succ, List.replicate_zero, List.cons_append, List.nil_append, List.set_cons_zero, List.set_cons_succ])
section
variable {P : Program} {w : World} {K : PySem.W.Frag} {mg : Str → Option Value} {base : Heap}
def Asked (A : GA) (H : Hp) (n j m : Nat) : Prop := ∃ kvs, H A.fu = some (.dT kvs) ∧ valV kvs (keyP ((n : Int), (j : Int))) = some (.int (m : Int))
theorem Asked.keep {A : GA} {H H' : Hp} {n j m k : Nat} {G' : List Ent} (h : Asked A H n j m) (f : FKeep A k G' H H') : Asked A H' n j m := by
  obtain ⟨kvs, h1, h2⟩ := h
  obtain ⟨k2, e1, e2, _⟩ := f kvs h1
  exact ⟨k2, e1, e2 _ _ h2⟩
theorem Asked.one {A : GA} {H : Hp} {n j m m' : Nat} (h : Asked A H n j m) (h' : Asked A H n j m') : m = m' := by
  obtain ⟨kvs, h1, h2⟩ := h
  obtain ⟨k2, e1, e2⟩ := h'
  rw [h1] at e1
  injection Option.some.inj e1 with e
  subst e
  rw [h2] at e2
  injection Option.some.inj e2 with e
  exact Int.ofNat.inj e
theorem Gg.fput {C CB CR : Addr} {bs ss : List Int} {H H' : Hp} {A : GA} {G G' : List Ent} {S k n j m : Nat} {kvs : List (List L2.Key × V)} (h : Gg C CB CR bs ss A k H G S H' G') (hk : H' A.fu = some (.dT kvs)) (nv : valV kvs (keyP ((n : Int), (j : Int))) = none) (fr : FutR bs ss G' n j m) (cf : ∀ e, G'[n]? = some e → costF e.l ≤ k + 1) :
    Gg C CB CR bs ss A (k + 1) H G S (upd H' A.fu (.dT (putK kvs (keyP ((n : Int), (j : Int))) (.int (m : Int))))) G' ∧ Asked A (upd H' A.fu (.dT (putK kvs (keyP ((n : Int), (j : Int))) (.int (m : Int))))) n j m := by
  obtain ⟨g1, g2, g3, g4⟩ := h
  have nd := g2.nd
  have ne : ∀ {x y : Addr}, x ≠ y → y ≠ x := fun h => h.symm
  simp only [GA.M, List.nodup_cons, List.mem_cons, List.not_mem_nil, or_false, not_or] at nd
  obtain ⟨⟨n1, n2, n3, n4, n5, n6, n7, n8⟩, ⟨m1, m2, m3, m4, m5, m6, m7⟩, ⟨o1, o2, o3, o4, o5, o6⟩, ⟨p1, p2, p3, p4, p5⟩, ⟨q1, q2, q3, q4⟩, ⟨r1, r2, r3⟩, ⟨t1, t2⟩, u1, _⟩ := nd
  have fM : A.fu ∈ A.M := by simp only [GA.M, List.mem_cons, true_or, or_true]
  have eh : hide A.M (upd H' A.fu (.dT (putK kvs (keyP ((n : Int), (j : Int))) (.int (m : Int))))) = hide A.M H' := hide_upd fM
  refine ⟨⟨by rw [eh]; exact g1, ?_, g3, fun kv e => ?_⟩, _, upd_same, by rw [valV_put, if_pos rfl]⟩
  · obtain ⟨h1, h2, h3, h4, h5, ⟨us, h6, h7, h7'⟩, ⟨k1, h8, h8'', h8'⟩, ⟨k2, h9, h9'', h9'⟩, ⟨es', d1, d2⟩, ⟨k3, c1, c2, c3⟩, h11, h12, h13⟩ := g2
    rw [hk] at c1
    injection Option.some.inj c1 with c1
    subst c1
    refine ⟨by rw [eh]; exact h1, by rw [eh]; exact h2, by rw [upd_ne m7]; exact h3, by rw [upd_ne o6]; exact h4, by rw [upd_ne p5]; exact h5, ⟨us, by rw [upd_ne q4]; exact h6, h7, by rw [eh]; exact h7'⟩, ⟨k1, by rw [upd_ne r3]; exact h8, by omega, h8'⟩, ⟨k2, by rw [upd_ne t2]; exact h9, by omega, h9'⟩,
      ⟨es', by rw [upd_ne u1]; exact d1, d2⟩, ⟨_, upd_same, Nat.le_trans (length_putK _ _ _) (by omega), fun n' j' v hv => ?_⟩, h11, by omega, h13⟩
    rw [valV_put] at hv
    by_cases ex : keyP ((n' : Int), (j' : Int)) = keyP ((n : Int), (j : Int))
    · rw [if_pos ex] at hv
      obtain rfl := Option.some.inj hv
      have z := keyP_inj ex
      injection z with z1 z2
      have z1 := Int.ofNat.inj z1
      have z2 := Int.ofNat.inj z2
      subst z1 z2
      exact ⟨m, rfl, fr⟩
    · rw [if_neg ex] at hv
      exact c3 n' j' v hv
  · obtain ⟨k1, e1, s1, w1⟩ := g4 kv e
    rw [hk] at e1
    injection Option.some.inj e1 with e1
    subst e1
    refine ⟨_, upd_same, fun k v hv => ?_, fun n' j' v hv => ?_⟩
    · rw [valV_put]
      by_cases ex : k = keyP ((n : Int), (j : Int))
      · rw [ex] at hv
        rw [s1 _ _ hv] at nv
        cases nv
      · rw [if_neg ex]
        exact s1 _ _ hv
    · rw [valV_put] at hv
      by_cases ex : keyP ((n' : Int), (j' : Int)) = keyP ((n : Int), (j : Int))
      · have z := keyP_inj ex
        injection z with z1 z2
        have z1 := Int.ofNat.inj z1
        subst z1
        obtain ⟨u, u', f1, f2, f3⟩ := fr
        exact .inr ⟨u, f1, cf u f1⟩
      · rw [if_neg ex] at hv
        rcases w1 n' j' v hv with z | ⟨u, u1, u2⟩
        · exact .inl z
        · exact .inr ⟨u, u1, by omega⟩
theorem costN_mono (N : Nat) : costN N ≤ costN (N + 1) := by
  show _ ≤ 13 * costN N + 220
  omega
def sp_new_future (C CB CR : Addr) (N : Nat) : Sp := fun vs H Q _ => ∃ (A : GA) (G : List Ent) (S n j : Nat) (e : Ent) (bs ss : List Int), vs = [.ref A.st, .int (n : Int), .int (j : Int)] ∧ 1 ≤ A.mn ∧ GS C CB CR bs ss H A G S ∧ (∀ b ∈ bs, 1 ≤ b ∧ b ≤ 8) ∧ (∀ b ∈ ss, 0 ≤ b ∧ b ≤ 8) ∧
  S + costN N < 7000000 ∧ G[n]? = some e ∧ e.l - 5 = N ∧ j + 2 ≤ e.l ∧
  ∀ (H' : Hp) (G' : List Ent) (m : Nat), Gg C CB CR bs ss A (costN N) H G S H' G' → FutR bs ss G' n j m → Q (.int (m : Int)) H'
def sp_future (C CB CR : Addr) (N : Nat) : Sp := fun vs H Q _ => ∃ (A : GA) (G : List Ent) (S n j : Nat) (e : Ent) (bs ss : List Int), vs = [.ref A.st, .int (n : Int), .int (j : Int)] ∧ 1 ≤ A.mn ∧ GS C CB CR bs ss H A G S ∧ (∀ b ∈ bs, 1 ≤ b ∧ b ≤ 8) ∧ (∀ b ∈ ss, 0 ≤ b ∧ b ≤ 8) ∧
  S + costN N < 7000000 ∧ G[n]? = some e ∧ e.l - 5 = N ∧ j + 2 ≤ e.l ∧
  ∀ (H' : Hp) (G' : List Ent) (m : Nat), Gg C CB CR bs ss A (costN N + 1) H G S H' G' → FutR bs ss G' n j m → Asked A H' n j m → Q (.int (m : Int)) H'
theorem ok_future_of (T : Txt K mg) (N : Nat) (ok_NF : ∀ _ : Txt K mg, FnOk P w K mg base CX0 (2 * N + 5 + 1) T.f_Store_new_future T.d_Store_new_future ["self", "square", "j"] (sp_new_future T.C_Store T.C_Blocks T.C_Rule N)) :
    FnOk P w K mg base CX0 (2 * N + 6 + 1) T.f_Store_future T.d_Store_future ["self", "square", "j"] (sp_future T.C_Store T.C_Blocks T.C_Rule N) := by
  refine T.F_Store_future.ok sc_Store_future (fun vs H Q E h => ?_) (fun cdv A outer s H vs Q E hr h => ?_)
  · obtain ⟨_, _, _, _, _, _, _, _, rfl, _⟩ := h
    rfl
  · obtain ⟨S, G, Z, n, j, e, bs, ss, rfl, mn, hS, g1, g2, few, hn, hl, hj, q⟩ := h
    have hu : (A.deeper (envOfC (Str.ofString "Store.future") (defScope s_Store_future) s.heap.objs.size T.f_Store_future cdv)).units + 1 < cLine := by
      have := hr.units
      omega
    refine ⟨_, (pss_cons (ps_set (i := 3) sc_Store_future.nd rfl (.inl rfl) (pe_tup (pa_cons (pv 1) (pa_cons (pv 2) pa_nil))))
      (pss_cons (ps_if (pt_cmp (pc_dnotin hu (pv 3) (pe_fld (pv 0) rfl)))
      (pss_one (ps_dput hu (pe_fld (pv 0) rfl) (pv 3) (pe_meth (pv 0) T.cl_Store T.m_Store_new_future (ok_NF T) (hr.mono (by omega)) T.b_Store_new_future .nil pass0 (pa_cons (pv 1) (pa_cons (pv 2) pa_nil))) rfl))
      pss_nil)
      (pss_one (ps_ret (pe_dget hu (pe_fld (pv 0) rfl) (pv 3) (fun _ _ => rfl)))))), ?_⟩
    k_upd
    refine ⟨_, rfl, _, rfl, by k_clsL, fun kp nk => ?_⟩
    k_invariant "new" (nk, H1, e1, h1)
    k_upd
    have kM := hS.off nk
    have hS1 := hS.up e1
    obtain ⟨dx, ru, ho⟩ := hS1.ob
    obtain ⟨kvs, hk, lk, sk⟩ := hS1.fu
    have dg : DGet H1 S.fu (.ref kp) (valV kvs (keyP ((n : Int), (j : Int)))) := .t (k := keyP ((n : Int), (j : Int))) hk h1
    cases hv : valV kvs (keyP ((n : Int), (j : Int))) with
    | some v =>
      rw [hv] at dg
      refine ⟨_, rfl, _, rfl, S.st, _, _, _, _, rfl, ho, T.cl_Store, T.na_Store__futures, rfl, _, _, rfl, dg, false, rfl, iteF ?_⟩
      k_upd
      refine ⟨_, rfl, S.st, _, _, _, _, rfl, ho, T.cl_Store, T.na_Store__futures, rfl, _, rfl, S.fu, _, rfl, dg, ?_⟩
      obtain ⟨m, rfl, fm⟩ := sk n j v hv
      exact q H1 G m ((Gg.refl _ hS).same e1) fm ⟨kvs, hk, hv⟩
    | none =>
      rw [hv] at dg
      refine ⟨_, rfl, _, rfl, S.st, _, _, _, _, rfl, ho, T.cl_Store, T.na_Store__futures, rfl, _, _, rfl, dg, true, rfl, iteT ?_⟩
      k_upd
      refine ⟨_, rfl, S.st, _, _, rfl, ho, rfl, _, rfl, _, rfl, S, G, Z, n, j, e, bs, ss, rfl, mn, hS1, g1, g2, few, hn, hl, hj, fun H2 G2 m gr fm => ?_⟩
      obtain ⟨dx2, ru2, ho2⟩ := gr.st.ob
      obtain ⟨kv2, hk2, lk2, sk2⟩ := gr.st.fu
      have h2 := gr.fresh h1 kM
      have fM : S.fu ∈ S.M := by simp only [GA.M, List.mem_cons, true_or, or_true]
      have stM : S.st ∉ S.M := (List.nodup_cons.mp hS.nd).1
      have ks : kp ≠ S.fu := fun z => kM (by rw [z]; exact fM)
      have lk9 : kv2.length < sizeLine := by rw [sizeLine_eq]; omega
      cases hv2 : valV kv2 (keyP ((n : Int), (j : Int))) with
      | none =>
        obtain ⟨gp, ak⟩ := (gr.of_same e1).fput hk2 hv2 fm fun u hu => by
          rw [preG gr.pre hn] at hu
          obtain rfl := Option.some.inj hu
          unfold costF
          rw [hl]
          exact Nat.le_refl _
        have ho3 : upd H2 S.fu (.dT (putK kv2 (keyP ((n : Int), (j : Int))) (.int (m : Int)))) S.st = some (.ins T.C_Store dx2 (sf ru2 S.bo S.la S.ca S.ba S.pa S.sm S.lg S.em S.fu)) := by
          rw [upd_ne fun z => stM (by rw [z]; exact fM)]
          exact ho2
        have h3 : upd H2 S.fu (.dT (putK kv2 (keyP ((n : Int), (j : Int))) (.int (m : Int)))) kp = some (.tup [.int (n : Int), .int (j : Int)]) := by
          rw [upd_ne ks]
          exact h2
        refine ⟨_, rfl, S.st, _, _, _, _, rfl, ho2, T.cl_Store, T.na_Store__futures, rfl, _, rfl, S.fu, _, rfl, .t (k := keyP ((n : Int), (j : Int))) hk2 h2 lk9, ?_⟩
        obtain ⟨H3, e3⟩ : ∃ H3, H3 = upd H2 S.fu (.dT (putK kv2 (keyP ((n : Int), (j : Int))) (.int (m : Int)))) := ⟨_, rfl⟩
        rw [← e3] at gp ak ho3 h3 ⊢
        obtain ⟨kv3, hk3, hv3⟩ := id ak
        have dg3 : DGet H3 S.fu (.ref kp) (some (.int (m : Int))) := by
          rw [← hv3]
          exact .t (k := keyP ((n : Int), (j : Int))) hk3 h3
        refine ⟨_, rfl, S.st, _, _, _, _, rfl, ho3, T.cl_Store, T.na_Store__futures, rfl, _, rfl, S.fu, _, rfl, dg3, ?_⟩
        exact q H3 G2 m gp fm ak
      | some v =>
        exfalso
        obtain ⟨k1, f1, f2, f3⟩ := gr.fk kvs hk
        rw [hk2] at f1
        injection Option.some.inj f1 with f1
        subst f1
        rcases f3 n j v hv2 with z | ⟨u, u1, u2⟩
        · rw [hv] at z
          cases z
        · rw [preG gr.pre hn] at u1
          obtain rfl := Option.some.inj u1
          unfold costF at u2
          rw [hl] at u2
          omega
end
end My
namespace My
open PySem PySem.Spec PyProof.Rows L2 Vx
open TL
local macro_rules | `(tactic| k_invariant "new" ($n, $H:ident, $e:ident, $h:ident)) => `(tactic| (generalize hE : upd _ _ _ = $H; obtain ⟨$e:ident, $h:ident⟩ := gen_e hE $n; clear hE))
local macro_rules | `(tactic| k_places) => `(tactic| first
  | assumption
  | exact lst_of (by assumption)
  | exact tup_of (by assumption)
  | (refine getS (by assumption) ?_; k_places)
  | (refine Same.seq (by assumption) ?_; k_places)
  | (refine tupS (by assumption) ?_; k_places)
  | (refine lst_of ?_; k_places)
  | (refine tup_of ?_; k_places))
local macro_rules | `(tactic| k_subL) => `(tactic| first
  | k_places
  | solve_by_elim (maxDepth := 10) [getS, lst_of, tup_of, Same.seq, tupS])
local macro_rules | `(tactic| k_offL) => `(tactic| first
  | (show (0 : Int) < _; first | omega | decide)
  | (refine ⟨?_, ?_⟩ <;> first | omega | decide)
  | exact .inr ⟨by decide, by decide⟩
  | exact .inl ⟨by decide, by decide⟩
  | exact .inl ⟨by omega, by omega⟩
  | omega)
local macro_rules | `(tactic| k_clsL) => `(tactic| exact Nat.le_of_ble_eq_true rfl)
local macro_rules | `(tactic| k_upd) => `(tactic| simp only [L2.start, List.map_cons, List.map_nil, List.length_cons, List.length_nil, List.replicate_succ, List.replicate_zero, List.cons_append, List.nil_append, List.set_cons_zero, List.set_cons_succ])
section
variable {P : Program} {w : World} {K : PySem.W.Frag} {mg : Str → Option Value} {base : Heap}
theorem pg_unlK {X : Cx} {K : PySem.W.Frag} {es : List Expr} {k : Nat} {t : TGs} {n : Nat} {pos : Pos} (hK : X.K = K) (hc : X.calm = true) (h : PGs X es t)
    (hn : (assignEach es X.env).length = n := by rfl) (hst : (assignEach es X.env).findIdx? (·.1) = none := by rfl) : PG X (.Tuple es k pos) (gUnl K n t) := by
  subst hK
  exact pg_unl hc h hn hst
theorem Gg.back {C CB CR : Addr} {bs ss : List Int} {H H' : Hp} {A : GA} {G G' : List Ent} {S k : Nat} {p : Addr} (h : Gg C CB CR bs ss A k H G S H' G') (n : H' p = none) : H p = none := by
  cases hp : H p with
  | none => rfl
  | some o =>
    rw [h.fresh hp (h.st.off n)] at n
    cases n
/-- squares made one after another of those of a list -/
def MapP (C CB CR : Addr) (bs ss : List Int) (A : GA) (D src : Addr) (ns : List Nat) (c0 c : Nat) (X : Int → Int → Bool) (lev : Nat) (px py : Nat → Int) (H : Hp) (G : List Ent) (Z i : Nat) (H' : Hp) : Prop :=
  ∃ (G' : List Ent) (ms : List Nat), Gg C CB CR bs ss A (c0 + i * c) H G Z H' G' ∧ H' D = some (.lst (intL ms)) ∧ ms.length = i ∧ (∀ k : Nat, k < i → ∃ (m : Nat) (u : Ent), ms[k]? = some m ∧ G'[m]? = some u ∧ u.l = lev ∧ Sub X ((2 ^ lev : Nat) : Int) (px k) (py k) u.L) ∧ H' src = some (.lst (intL ns))
theorem MapP.next {C CB CR : Addr} {bs ss : List Int} {A : GA} {D src : Addr} {ns : List Nat} {c0 c : Nat} {X : Int → Int → Bool} {lev : Nat} {px py : Nat → Int} {H H' H2 : Hp} {G G' G2 : List Ent} {Z i : Nat} {ms : List Nat} {m : Nat} {u : Ent}
    (hS : GS C CB CR bs ss H A G Z) (nD : H D = none) (DM : D ∉ A.M) (sM : src ∉ A.M) (ne : src ≠ D) (hi : i < 1000) (hg : Gg C CB CR bs ss A (c0 + i * c) H G Z H' G') (hD : H' D = some (.lst (intL ms))) (lm : ms.length = i)
    (hq : ∀ k : Nat, k < i → ∃ (m : Nat) (u : Ent), ms[k]? = some m ∧ G'[m]? = some u ∧ u.l = lev ∧ Sub X ((2 ^ lev : Nat) : Int) (px k) (py k) u.L) (hs : H' src = some (.lst (intL ns))) (g2 : Gg C CB CR bs ss A c H' G' (Z + (c0 + i * c)) H2 G2) (em : G2[m]? = some u) (ul : u.l = lev) (us : Sub X ((2 ^ lev : Nat) : Int) (px i) (py i) u.L) :
    ∃ acc, H2 D = some (.lst acc) ∧ acc.length < sizeLine ∧ MapP C CB CR bs ss A D src ns c0 c X lev px py H G Z (i + 1) (upd H2 D (.lst (acc ++ [.int (m : Int)]))) := by
  have hD2 := g2.fresh hD DM
  have hg2 : Gg C CB CR bs ss A (c0 + (i + 1) * c) H G Z H2 G2 := (hg.trans g2).more (by rw [Nat.add_mul, Nat.one_mul]; omega)
  refine ⟨_, hD2, ?_, G2, ms ++ [m], hg2.loc hS nD (fun xs z => by rw [hD2] at z; cases z), ?_, by rw [List.length_append, lm]; rfl, fun k hk => ?_, ?_⟩
  · unfold intL
    rw [List.length_map, sizeLine_eq]
    omega
  · rw [upd_same]
    unfold intL
    rw [List.map_append]
    rfl
  · by_cases c : k < i
    · obtain ⟨n, v, v1, v2, v3⟩ := hq k c
      exact ⟨n, v, by rw [List.getElem?_append_left (by omega)]; exact v1, preG g2.pre v2, v3⟩
    · obtain rfl : k = i := by omega
      exact ⟨m, u, by rw [List.getElem?_append_right (by omega), lm, Nat.sub_self]; rfl, em, ul, us⟩
  · rw [upd_ne ne]
    exact g2.fresh hs sM
theorem gN_go {v : V} {σ : L2.St} {H : Hp} {i : Nat} {Q : L2.St → Hp → Prop} (h : Q (σ.set i (some v)) H) : gName i v σ H Q := h
def spF (C CB CR : Addr) : Nat → Sp
  | 0 => fun _ _ _ _ => False
  | N + 1 => sp_future C CB CR N
theorem ok_new_future_of (T : Txt K mg) (N : Nat) (hN : N ≤ 8) (ok_HF : ∀ _ : Txt K mg, FnOk P w K mg base CX0 (2 * N + 5) T.f_Store_future T.d_Store_future ["self", "square", "j"] (spF T.C_Store T.C_Blocks T.C_Rule N)) :
    FnOk P w K mg base CX0 (2 * N + 5 + 1) T.f_Store_new_future T.d_Store_new_future ["self", "square", "j"] (sp_new_future T.C_Store T.C_Blocks T.C_Rule N) := by
  refine T.F_Store_new_future.ok sc_Store_new_future (fun vs H Q E h => ?_) (fun cdv A outer s H vs Q E hr h => ?_)
  · obtain ⟨_, _, _, _, _, _, _, _, rfl, _⟩ := h
    rfl
  · obtain ⟨S, G, Z, n, j, e, bs, ss, rfl, mn, hS, g1, g2, few, hn, hl, hj, q⟩ := h
    obtain ⟨dx, ru, ho⟩ := hS.ob
    obtain ⟨l, el⟩ : ∃ l, e.l = l + 2 := ⟨e.l - 2, by omega⟩
    refine ⟨_, (pss_cons (ps_set (i := 3) sc_Store_new_future.nd rfl (.inl rfl) (pe_ix ix_list (pe_fld (pv 0) rfl) (pv 1) (fun _ _ => rfl)))
      (pss_cons (ps_if (pt_cmpR op_le (pv 3) (pe_gcx (by rfl) T.c_TOP) (nomark _))
      (pss_cons (ps_set (i := 4) sc_Store_new_future.nd rfl (.inl rfl) (pe_meth (pe_fld (pv 0) rfl) T.cl_Blocks T.m_Blocks_centre_after (ok_Blocks_centre_after T) (hr.mono (by omega)) T.b_Blocks_centre_after .nil pass0 (pa_cons (pv 3) (pa_cons (pe_ix ix_list (pe_fld (pv 0) rfl) (pv 1) (fun _ _ => rfl)) (pa_cons (pe_op op_shl pe_int (pv 2)) pa_nil)))))
      (pss_one (ps_ret (pe_meth (pv 0) T.cl_Store T.m_Store_small (ok_Store_small T) (hr.mono (by omega)) T.b_Store_small .nil pass0 (pa_cons (pe_op op_sub (pv 3) pe_int) (pa_cons (pv 4) pa_nil))))))
      pss_nil)
      (pss_cons (ps_if (pt_not (pt_truth (pe_ix ix_list (pe_fld (pv 0) rfl) (pv 1) (fun _ _ => rfl)) (by intro _; rfl)))
      (pss_one (ps_ret (pe_meth (pv 0) T.cl_Store T.m_Store_empty (ok_Store_empty T) (hr.mono (by omega)) T.b_Store_empty .nil pass0 (pa_cons (pe_op op_sub (pv 3) pe_int) pa_nil))))
      pss_nil)
      (pss_cons (ps_set (i := 5) sc_Store_new_future.nd rfl (.inr rfl) (pe_cmpR op_eq (pv 2) (pe_op op_sub (pv 3) pe_int) (nomark _)))
      (pss_cons (ps_mid (ps_set (i := 6) sc_Store_new_future.nd rfl (.inr rfl) (pe_ifExp (pt_val (pv 5)) (pe_op op_sub (pv 2) pe_int) (pv 2))))
      (pss_cons (ps_setLc (i := 7) (own := [("part", 12)]) (g := gName 12) (tt := tYes) rfl sc_Store_new_future.nd rfl rfl (sw_true rfl rfl rfl (by decide +kernel)) (pi_list (pe_meth (pv 0) T.cl_Store T.m_Store_nine (ok_Store_nine T) (hr.mono (by omega)) T.b_Store_nine .nil pass0 (pa_cons (pv 1) pa_nil))) (blkOk_by (own := [("part", 12)]) (N := N_Store_new_future) (sc := defScope s_Store_new_future) (by decide +kernel)) (fun _ _ _ _ _ => pg_name (i := 12) sc_Store_new_future.nd rfl (Or.inl rfl)) (fun _ _ _ _ _ => pts_nil) (fun _ _ _ _ _ => (pe_ifExp (pt_val (pv 5)) (pe_meth (pv 0) T.cl_Store T.m_Store_future (ok_HF T) (hr.mono (by omega)) T.b_Store_future .nil pass0 (pa_cons (pv 12) (pa_cons (pv 6) pa_nil))) (pe_meth (pv 0) T.cl_Store T.m_Store_middle (ok_Store_middle T) (hr.mono (by omega)) T.b_Store_middle .nil pass0 (pa_cons (pv 12) pa_nil)))))
      (pss_cons (ps_asg (pe_lc (own := [("part", 12)]) (g := gName 12) (tt := tYes) rfl sc_Store_new_future.nd (pi_list (pe_meth (pv 0) T.cl_Store T.m_Store_four (ok_Store_four T) (hr.mono (by omega)) T.b_Store_four .nil pass0 (pa_cons (pv 7) pa_nil))) (blkOk_by (own := [("part", 12)]) (N := N_Store_new_future) (sc := defScope s_Store_new_future) (by decide +kernel)) (fun _ _ _ _ _ => pg_name (i := 12) sc_Store_new_future.nd rfl (Or.inl rfl)) (fun _ _ _ _ _ => pts_nil) (fun _ _ _ _ _ => (pe_meth (pv 0) T.cl_Store T.m_Store_future (ok_HF T) (hr.mono (by omega)) T.b_Store_future .nil pass0 (pa_cons (pv 12) (pa_cons (pv 6) pa_nil))))) (pg_unlK (K := K) (n := 4) rfl rfl (pgs_cons (pg_name (i := 8) sc_Store_new_future.nd rfl (.inl rfl)) (pgs_cons (pg_name (i := 9) sc_Store_new_future.nd rfl (.inl rfl)) (pgs_cons (pg_name (i := 10) sc_Store_new_future.nd rfl (.inl rfl)) (pgs_cons (pg_name (i := 11) sc_Store_new_future.nd rfl (.inl rfl)) pgs_nil))))))
      (pss_one (ps_ret (pe_meth (pv 0) T.cl_Store T.m_Store_joined (ok_Store_joined T) (hr.mono (by omega)) T.b_Store_joined .nil pass0 (pa_cons (pv 8) (pa_cons (pv 9) (pa_cons (pv 10) (pa_cons (pv 11) pa_nil)))))))))))))), ?_⟩
    k_upd
    refine ⟨_, rfl, S.st, _, _, _, _, rfl, ho, T.cl_Store, T.na_Store__levels, rfl, _, rfl, _, _, _, _, rfl, rfl, lst_of hS.lv, lvG_at hn, ?_⟩
    rw [el]
    k_upd
    refine ⟨_, rfl, _, _, rfl, rfl, _, rfl, ite2 (fun c => ?_) (fun c => ?_)⟩
    · have c := of_decide_eq_true c
      have hl4 : l < 4 := by omega
      obtain ⟨hf, eL⟩ := (hS.wf n e hn).small (by omega)
      rw [el] at hf
      have hb := fit_lt (by omega) hf
      obtain ⟨dxb, rub, flb, hb1, hb2, _⟩ := id hS.blk
      refine ⟨_, rfl, S.st, _, _, _, _, rfl, ho, T.cl_Store, T.na_Store__blocks, rfl, S.bo, _, _, rfl, hide_le _ _ hb1, rfl, _, rfl, _, rfl, S.st, _, _, _, _, rfl, ho, T.cl_Store, T.na_Store__bits, rfl, _, rfl, _, _, _, _, rfl, rfl, lst_of hS.bt, btG_at hn, ?_⟩
      refine ⟨_, rfl, _, _, rfl, rfl, ⟨by omega, by omega, by decide⟩, ?_⟩
      have hsh : (1 : Int) * 2 ^ (((j : Nat) : Int).toNat) = ((2 ^ j : Nat) : Int) := by
        rw [Int.toNat_natCast, Int.one_mul]
        exact (Int.natCast_pow 2 j).symm
      have j16 : 2 ^ j ≤ 16 := Nat.le_trans (Nat.pow_le_pow_right (by decide) (show j ≤ 4 by omega)) (by decide)
      refine ⟨S.bo, l, e.b, 2 ^ j, bs, ss, hl4, j16, ?_, hb, hS.blk.up hide_le, g1, g2, fun H1 e1 => ?_⟩
      · dsimp only
        rw [hsh]
        rfl
      have hS1 := hS.up e1
      obtain ⟨dx1, ru1, ho1⟩ := hS1.ob
      k_upd
      refine ⟨_, rfl, S.st, _, _, rfl, ho1, rfl, _, rfl, _, _, rfl, rfl, _, rfl, S, G, Z, l + 1, cutN (l + 1) (iterBlk bs ss (2 ^ j) e.b) (2 ^ l) (2 ^ l), bs, ss, ?_, hS1, by omega, cut_fit (by omega), by omega, fun H2 G2 m u gr um ul ub uL _ => ?_⟩
      · dsimp only
        rw [show ((l + 2 : Nat) : Int) - 1 = ((l + 1 : Nat) : Int) by omega]
        rfl
      have c1 : 1 ≤ costN N := by
        cases N with
        | zero => exact Nat.le_refl _
        | succ N => show _ ≤ 13 * costN N + 220; omega
      refine q H2 G2 m ((gr.of_same e1).more c1) ⟨e, u, preG gr.pre hn, um, by omega, hj, ?_⟩
      rw [el, uL, eL]
      exact fut_small g1 g2 hl4 (by omega)
    · have hl4 : 4 ≤ l := Classical.byContradiction fun n => c (decide_eq_true (by omega))
      obtain ⟨l, rfl⟩ : ∃ l', l = l' + 1 := ⟨l - 1, by omega⟩
      cases N with
      | zero => omega
      | succ N =>
      have spz : spF T.C_Store T.C_Blocks T.C_Rule (N + 1) = sp_future T.C_Store T.C_Blocks T.C_Rule N := rfl
      have cN : costN (N + 1) = 13 * costN N + 220 := rfl
      rw [cN] at few q
      refine ⟨_, rfl, S.st, _, _, _, _, rfl, ho, T.cl_Store, T.na_Store__counts, rfl, _, rfl, _, _, _, _, rfl, rfl, lst_of hS.ct, ctG_at hn, ?_⟩
      by_cases ec : e.c = 0
      · refine ⟨_, tru0 ec, iteT ?_⟩
        have e0 := ((hS.wf n e hn).cnt).mp ec
        refine ⟨_, rfl, S.st, _, _, rfl, ho, rfl, _, rfl, _, _, rfl, rfl, S, G, Z, l + 2, bs, ss, ?_, mn, hS, by omega, by omega, fun H1 G1 m u gr um ul uz => ?_⟩
        · dsimp only
          rw [show ((l + 1 + 2 : Nat) : Int) - 1 = ((l + 2 : Nat) : Int) by omega]
          rfl
        · refine q H1 G1 m (gr.more (by omega)) ⟨e, u, preG gr.pre hn, um, by omega, hj, fun r c _ _ _ _ => ?_⟩
          rw [uz, show e.L = fun _ _ => false from funext fun r => funext fun c => e0 r c, genL_dead g1]
      refine ⟨_, tru1 ec, iteF ?_⟩
      refine ⟨_, rfl, _, rfl, _, _, rfl, rfl, rfl, ?_⟩
      k_upd
      refine gN_go ?_
      k_upd
      obtain ⟨wh, ewh⟩ : ∃ b, b = decide (V.int (j : Int) = V.int (((l + 1 + 2 : Nat) : Int) - 2)) := ⟨_, rfl⟩
      rw [← ewh]
      refine ⟨fun σ' H' => H' = H ∧ ∃ (wh : Bool) (t : Nat), t ≤ l ∧ 2 ^ j = (if wh = true then 2 ^ t else 0) + 2 ^ t ∧ σ' = [some (.ref S.st), some (.int (n : Int)), some (.int (j : Int)), some (.int ((l + 1 + 2 : Nat) : Int)), none, some (.bl wh), some (.int (t : Int)), none, none, none, none, none, none], ?_, ?_⟩
      · cases wh with
        | true =>
          have w := of_decide_eq_true ewh.symm
          injection w with w
          have w : j = l + 1 := by omega
          subst w
          refine ⟨_, rfl, true, rfl, iteT ?_⟩
          refine ⟨_, rfl, _, _, rfl, rfl, ?_⟩
          refine gN_go ?_
          k_upd
          refine ⟨trivial, true, l, Nat.le_refl _, ?_, ?_⟩
          · rw [if_pos rfl, Nat.pow_succ, Nat.mul_two]
          · rw [show ((l + 1 : Nat) : Int) - 1 = (l : Int) by omega]
        | false =>
          have w := of_decide_eq_false ewh.symm
          have w : j ≤ l := Classical.byContradiction fun z => w (congrArg V.int (by omega))
          refine ⟨_, rfl, false, rfl, iteF ?_⟩
          refine ⟨_, rfl, ?_⟩
          refine gN_go ?_
          k_upd
          exact ⟨trivial, false, j, w, by rw [if_neg Bool.false_ne_true, Nat.zero_add], rfl⟩
      clear ewh
      rintro σ' H' ⟨rfl, wh, t, ht, hw, rfl⟩
      refine ⟨_, rfl, S.st, _, _, rfl, ho, rfl, _, rfl, S, G, Z, l + 1, n, e, bs, ss, rfl, hS, by omega, hn, el, by omega, fun H1 G1 np ns n0 gr1 h1 l9 tl => ?_⟩
      refine ⟨np, rfl, ⟨_, lst_of h1⟩, fun D nD => ?_⟩
      have npM : np ∉ S.M := hS.off n0
      have nD0 := gr1.back nD
      have DM := gr1.st.off nD
      have neD : np ≠ D := fun z => by rw [← z, h1] at nD; cases nD
      have u0 := pow_pos2 l
      have u1 := pow_two l
      have u2 : ((2 ^ (l + 2) : Nat) : Int) = 2 * ((2 ^ (l + 1) : Nat) : Int) := pow_two (l + 1)
      have lns : (intL ns).length = 9 := by unfold intL; rw [List.length_map, l9]
      obtain ⟨X, eX⟩ : ∃ X, X = genL bs ss e.L (if wh = true then 2 ^ t else 0) := ⟨_, rfl⟩
      refine lc_list (K := K) (a := np) (xs := intL ns) (MapP T.C_Store T.C_Blocks T.C_Rule bs ss S D np ns 0 (costN N + 18) X (l + 1) (fun k => ((2 ^ l : Nat) : Int) + ((k / 3 : Nat) : Int) * ((2 ^ (l + 1) : Nat) : Int)) (fun k => ((2 ^ l : Nat) : Int) + ((k % 3 : Nat) : Int) * ((2 ^ (l + 1) : Nat) : Int)) H1 G1 (Z + 21))
        ⟨G1, [], (Gg.refl _ gr1.st).same (newS nD), upd_same, rfl, fun k h => absurd h (Nat.not_lt_zero _), by rw [upd_ne neD]; exact h1⟩ (fun i H' _ g => lst_of g.choose_spec.choose_spec.2.2.2.2) ?_ ?_
      · rintro i x' H2 hi ⟨G2, ms, hg, hD, lm, hq, hs⟩
        have li : i < 9 := by
          have := (List.getElem?_eq_some_iff.mp hi).1
          omega
        obtain ⟨n', u, x1, x2, x3, x4⟩ := tl (i / 3) (i % 3) (by omega) (by omega)
        rw [show 3 * (i / 3) + i % 3 = i by omega] at x1
        have ex : x' = V.int (n' : Int) := by
          unfold intL at hi
          rw [List.getElem?_map, x1] at hi
          exact (Option.some.inj hi).symm
        subst ex
        have x2 := preG hg.pre x2
        obtain ⟨dx2, ru2, ho2⟩ := hg.st.ob
        have bud : i * (costN N + 18) ≤ 8 * (costN N + 18) := Nat.mul_le_mul_right _ (by omega)
        have px : ∀ a : Nat, (a : Int) * ((2 ^ (l + 1) : Nat) : Int) + ((2 ^ l : Nat) : Int) = ((2 ^ l : Nat) : Int) + (a : Int) * ((2 ^ (l + 1) : Nat) : Int) := fun a => Int.add_comm _ _
        have fin : ∀ (H3 : Hp) (G3 : List Ent) (m : Nat) (u' : Ent), Gg T.C_Store T.C_Blocks T.C_Rule bs ss S (costN N + 18) H2 G2 (Z + 21 + (0 + i * (costN N + 18))) H3 G3 → G3[m]? = some u' → u'.l = l + 1 → Sub X ((2 ^ (l + 1) : Nat) : Int) (((2 ^ l : Nat) : Int) + ((i / 3 : Nat) : Int) * ((2 ^ (l + 1) : Nat) : Int)) (((2 ^ l : Nat) : Int) + ((i % 3 : Nat) : Int) * ((2 ^ (l + 1) : Nat) : Int)) u'.L →
            ∃ acc, H3 D = some (.lst acc) ∧ acc.length < sizeLine ∧ MapP T.C_Store T.C_Blocks T.C_Rule bs ss S D np ns 0 (costN N + 18) X (l + 1) (fun k => ((2 ^ l : Nat) : Int) + ((k / 3 : Nat) : Int) * ((2 ^ (l + 1) : Nat) : Int)) (fun k => ((2 ^ l : Nat) : Int) + ((k % 3 : Nat) : Int) * ((2 ^ (l + 1) : Nat) : Int)) H1 G1 (Z + 21) (i + 1) (upd H3 D (.lst (acc ++ [.int (m : Int)]))) :=
          fun H3 G3 m u' gr em ul us => MapP.next gr1.st nD DM npM neD (by omega) hg hD lm hq hs gr em ul us
        refine ⟨rfl, tyesT ?_⟩
        cases wh with
        | true =>
          refine ⟨_, rfl, true, rfl, iteT ?_⟩
          refine ⟨_, rfl, S.st, _, _, rfl, ho2, rfl, _, rfl, _, rfl, S, G2, Z + 21 + (0 + i * (costN N + 18)), n', t, u, bs, ss, rfl, mn, hg.st, g1, g2, by omega, x2, by omega, by omega, fun H3 G3 m gr fm _ => ?_⟩
          obtain ⟨v, v', f1, f2, f3, f4, f5⟩ := fm
          rw [preG gr.pre x2] at f1
          obtain rfl := Option.some.inj f1
          rw [x3] at f5
          refine fin H3 G3 m v' (gr.more (by omega)) f2 (by omega) ?_
          rw [eX, if_pos rfl, ← px, ← px]
          exact (fut_sub x4 f5 ht).at (by omega) (by omega)
        | false =>
          refine ⟨_, rfl, false, rfl, iteF ?_⟩
          refine ⟨_, rfl, S.st, _, _, rfl, ho2, rfl, _, rfl, S, G2, Z + 21 + (0 + i * (costN N + 18)), l, n', u, bs, ss, rfl, hg.st, by omega, x2, x3, fun H3 G3 m v' gr f2 vl vs => ?_⟩
          refine fin H3 G3 m v' (gr.more (by omega)) f2 vl ?_
          rw [eX, if_neg Bool.false_ne_true, ← px, ← px]
          exact (x4.trans vs (by omega) (by omega) (by omega) (by omega)).at (by omega) (by omega)
      · rintro H2 ⟨G2, ms, hg, hD, lm, hq, hs⟩
        rw [lns] at hg lm hq
        refine gN_go ?_
        k_upd
        have gr2 := gr1.trans hg
        have tl2 : Tiles G2 3 ms X (l + 1) ((2 ^ (l + 1) : Nat) : Int) ((2 ^ l : Nat) : Int) ((2 ^ l : Nat) : Int) := fun a b ha hb => by
          obtain ⟨m, u, v1, v2, v3, v4⟩ := hq (3 * a + b) (by omega)
          dsimp only at v4
          rw [show (3 * a + b) / 3 = a by omega, show (3 * a + b) % 3 = b by omega] at v4
          exact ⟨m, u, v1, v2, v3, v4⟩
        obtain ⟨dx2, ru2, ho2⟩ := gr2.st.ob
        refine ⟨_, rfl, S.st, _, _, rfl, ho2, rfl, _, rfl, S, G2, Z + (21 + (0 + 9 * (costN N + 18))), l + 1, D, ms, X, _, _, bs, ss, rfl, gr2.st, by omega, hD, DM, tl2, fun H3 G3 fp qs nfp gr3 h3 l4 tl4 => ?_⟩
        refine ⟨fp, rfl, ⟨_, lst_of h3⟩, fun D2 nD2 => ?_⟩
        have fpM : fp ∉ S.M := gr2.st.off nfp
        have DM2 := gr3.st.off nD2
        have neD2 : fp ≠ D2 := fun z => by rw [← z, h3] at nD2; cases nD2
        have gr23 := gr2.trans gr3
        have lqs : (intL qs).length = 4 := by unfold intL; rw [List.length_map, l4]
        obtain ⟨Z3, eZ3⟩ : ∃ Z3, Z3 = Z + (21 + (0 + 9 * (costN N + 18)) + 4) := ⟨_, rfl⟩
        have st3 := gr23.st
        rw [← eZ3] at st3
        refine lc_list (K := K) (a := fp) (xs := intL qs) (MapP T.C_Store T.C_Blocks T.C_Rule bs ss S D2 fp qs 0 (costN N + 1) (genL bs ss X (2 ^ t)) (l + 1) (fun k => ((2 ^ l : Nat) : Int) + ((k / 2 : Nat) : Int) * ((2 ^ (l + 1) : Nat) : Int) + ((2 ^ l : Nat) : Int)) (fun k => ((2 ^ l : Nat) : Int) + ((k % 2 : Nat) : Int) * ((2 ^ (l + 1) : Nat) : Int) + ((2 ^ l : Nat) : Int)) H3 G3 Z3)
          ⟨G3, [], (Gg.refl _ st3).same (newS nD2), upd_same, rfl, fun k h => absurd h (Nat.not_lt_zero _), by rw [upd_ne neD2]; exact h3⟩ (fun i H' _ g => lst_of g.choose_spec.choose_spec.2.2.2.2) ?_ ?_
        · rintro i x' H4 hi ⟨G4, ms2, hg2, hD2, lm2, hq2, hs2⟩
          have li : i < 4 := by
            have := (List.getElem?_eq_some_iff.mp hi).1
            omega
          obtain ⟨n', u, x1, x2, x3, x4⟩ := tl4 (i / 2) (i % 2) (by omega) (by omega)
          rw [show 2 * (i / 2) + i % 2 = i by omega] at x1
          have ex : x' = V.int (n' : Int) := by
            unfold intL at hi
            rw [List.getElem?_map, x1] at hi
            exact (Option.some.inj hi).symm
          subst ex
          have x2 := preG hg2.pre x2
          obtain ⟨dx4, ru4, ho4⟩ := hg2.st.ob
          have bud : i * (costN N + 1) ≤ 3 * (costN N + 1) := Nat.mul_le_mul_right _ (by omega)
          refine ⟨rfl, tyesT ?_⟩
          refine ⟨_, rfl, S.st, _, _, rfl, ho4, rfl, _, rfl, _, rfl, S, G4, Z3 + (0 + i * (costN N + 1)), n', t, u, bs, ss, rfl, mn, hg2.st, g1, g2, by omega, x2, by omega, by omega, fun H5 G5 m gr fm _ => ?_⟩
          obtain ⟨v, v', f1, f2, f3, f4, f5⟩ := fm
          rw [preG gr.pre x2] at f1
          obtain rfl := Option.some.inj f1
          rw [x3] at f5
          exact MapP.next st3 nD2 DM2 fpM neD2 (by omega) hg2 hD2 lm2 hq2 hs2 gr f2 (by omega) (fut_sub x4 f5 ht)
        · rintro H4 ⟨G4, ms2, hg2, hD2, lm2, hq2, _⟩
          rw [lqs] at hg2 lm2 hq2
          obtain ⟨m0, m1, m2, m3, rfl⟩ := list4 ms2 lm2
          obtain ⟨k0, ua, y0, z0, l0, s0⟩ := hq2 0 (by decide)
          obtain ⟨k1, ub, y1, z1, l1, s1⟩ := hq2 1 (by decide)
          obtain ⟨k2, uc, y2, z2, l2, s2⟩ := hq2 2 (by decide)
          obtain ⟨k3, ud, y3, z3, l3, s3⟩ := hq2 3 (by decide)
          obtain rfl : m0 = k0 := Option.some.inj y0
          obtain rfl : m1 = k1 := Option.some.inj y1
          obtain rfl : m2 = k2 := Option.some.inj y2
          obtain rfl : m3 = k3 := Option.some.inj y3
          refine ⟨D2, _, rfl, lst_of hD2, rfl, _, _, rfl, _, _, rfl, _, _, rfl, _, _, rfl, rfl, ?_⟩
          k_upd
          obtain ⟨dx4, ru4, ho4⟩ := hg2.st.ob
          refine ⟨_, rfl, S.st, _, _, rfl, ho4, rfl, _, rfl, _, rfl, _, rfl, _, rfl, S, G4, Z3 + (0 + 4 * (costN N + 1)), l + 1, m0, m1, m2, m3, ua, ub, uc, ud, bs, ss, rfl, hg2.st, by omega, z0, z1, z2, z3, l0, l1, l2, l3, fun H5 G5 m u g5 um ul uL _ => ?_⟩
          subst eZ3
          have gt := gr23.trans (hg2.trans g5)
          refine q H5 G5 m (gt.more (by omega)) ⟨e, u, preG gt.pre hn, um, by omega, hj, ?_⟩
          have fin := sub_quad s0 (s1.at rfl (by dsimp only; omega)) (s2.at (by dsimp only; omega) rfl) (s3.at (by dsimp only; omega) (by dsimp only; omega))
          rw [← uL, ← u2, eX, ← genL_add, ← hw] at fin
          intro r c a b d f
          rw [el, show l + 1 + 2 - 1 = l + 2 by omega] at b f
          rw [el, show l + 1 + 2 - 2 = l + 1 by omega, fin r c a b d f]
          congr 1 <;> dsimp only <;> omega
theorem ok_future (T : Txt K mg) : ∀ N : Nat, N ≤ 8 → FnOk P w K mg base CX0 (2 * N + 6 + 1) T.f_Store_future T.d_Store_future ["self", "square", "j"] (sp_future T.C_Store T.C_Blocks T.C_Rule N)
  | 0, h => ok_future_of T 0 fun _ => ok_new_future_of T 0 h fun _ => ⟨fun _ _ _ _ h => h.elim, fun _ _ _ _ _ _ _ _ _ _ _ _ _ h => h.elim⟩
  | N + 1, h => ok_future_of T (N + 1) fun _ => ok_new_future_of T (N + 1) h fun _ => ok_future T N (by omega)
end
end My
namespace My
open PySem PySem.Spec PyProof.Rows L2 Vx
open TL
local macro_rules | `(tactic| k_invariant "new" ($n, $H:ident, $e:ident, $h:ident)) => `(tactic| (generalize hE : upd _ _ _ = $H; obtain ⟨$e:ident, $h:ident⟩ := gen_e hE $n; clear hE))
local macro_rules | `(tactic| k_places) => `(tactic| first
  | assumption
  | exact lst_of (by assumption)
  | exact tup_of (by assumption)
  | (refine getS (by assumption) ?_; k_places)
  | (refine Same.seq (by assumption) ?_; k_places)
  | (refine tupS (by assumption) ?_; k_places)
  | (refine lst_of ?_; k_places)
  | (refine tup_of ?_; k_places))
local macro_rules | `(tactic| k_subL) => `(tactic| first
  | k_places
  | solve_by_elim (maxDepth := 10) [getS, lst_of, tup_of, Same.seq, tupS])
local macro_rules | `(tactic| k_offL) => `(tactic| first
  | (show (0 : Int) < _; first | omega | decide)
  | (refine ⟨?_, ?_⟩ <;> first | omega | decide)
  | exact .inr ⟨by decide, by decide⟩
  | exact .inl ⟨by decide, by decide⟩
  | exact .inl ⟨by omega, by omega⟩
  | omega)
local macro_rules | `(tactic| k_clsL) => `(tactic| exact Nat.le_of_ble_eq_true rfl)
local macro_rules | `(tactic| k_upd) => `(tactic| simp only [L2.start, List.map_cons, List.map_nil, List.length_cons, List.length_nil, List.replicate_succ, List.replicate_zero, List.cons_append, List.nil_append, List.set_cons_zero, List.set_cons_succ])
section
variable {P : Program} {w : World} {K : PySem.W.Frag} {mg : Str → Option Value} {base : Heap}
def Have (st : Addr) (H : Hp) (L : List (Addr × HO)) : Prop := (∀ x ∈ L, x.1 ≠ st ∧ H x.1 = some x.2) ∧ (L.map (·.1)).Nodup
theorem Have.fld {st : Addr} {H : Hp} {L : List (Addr × HO)} {o : HO} (h : Have st H L) : Have st (upd H st o) L :=
  ⟨fun x m => ⟨(h.1 x m).1, by rw [upd_ne (h.1 x m).1]; exact (h.1 x m).2⟩, h.2⟩
theorem Have.new {st p : Addr} {H H1 : Hp} {L : List (Addr × HO)} {o u : HO} (h : Have st H L) (e : Same H H1) (n : H p = none) (g : H1 p = some o) (hs : H st = some u) : Have st H1 ((p, o) :: L) := by
  refine ⟨fun x m => ?_, ?_⟩
  · rcases List.mem_cons.mp m with z | m
    · subst z
      exact ⟨fun z => (by dsimp only at z; rw [z, hs] at n; cases n), g⟩
    · exact ⟨(h.1 x m).1, e _ _ (h.1 x m).2⟩
  · rw [List.map_cons, List.nodup_cons]
    refine ⟨fun m => ?_, h.2⟩
    obtain ⟨x, mx, ex⟩ := List.mem_map.mp m
    have := (h.1 x mx).2
    dsimp only at ex
    rw [ex, n] at this
    cases this
theorem Have.same {st : Addr} {H H1 : Hp} {L : List (Addr × HO)} (h : Have st H L) (e : Same H H1) : Have st H1 L := ⟨fun x m => ⟨(h.1 x m).1, e _ _ (h.1 x m).2⟩, h.2⟩
def sp_Store_init (C CB CR : Addr) : Sp := fun vs H Q _ => ∃ (H0 : Hp) (st ru dx : Addr) (bs ss : List Int), vs = [.ref st, .ref ru] ∧ Same H0 H ∧ H0 st = none ∧ H st = some (.ins C dx []) ∧ RuleAt CR H0 ru bs ss ∧
  ∀ (H' : Hp) (A : GA) (G : List Ent), A.st = st → 1 ≤ A.mn → Same H0 (hide A.M H') → GS C CB CR bs ss H' A G 2 → Q .non H'
theorem ok_Store_init (T : Txt K mg) : FnOk P w K mg base CX0 4 T.f_Store_init T.d_Store_init ["self", "rule"] (sp_Store_init T.C_Store T.C_Blocks T.C_Rule) := by
  refine T.F_Store_init.ok sc_Store_init (fun vs H Q E h => ?_) (fun cdv A outer s H vs Q E hr h => ?_)
  · obtain ⟨_, _, _, _, _, _, rfl, _⟩ := h
    rfl
  · obtain ⟨H0, st, ru, dx, bs, ss, rfl, s0, st0, hst, hru, q⟩ := h
    refine ⟨_, (pss_cons (ps_fld (pv 0) (pv 1) rfl)
      (pss_cons (ps_fld (pv 0) (pe_make T.M_Blocks (ok_Blocks_init T) (hr.mono (by decide)) rfl T.g_Blocks T.b_Blocks_init .nil pass0 (pa_cons (pv 1) pa_nil)) rfl)
      (pss_cons (ps_fld (pv 0) (pe_lst pa_nil) rfl)
      (pss_cons (ps_fld (pv 0) (pe_lst pa_nil) rfl)
      (pss_cons (ps_fld (pv 0) (pe_lst pa_nil) rfl)
      (pss_cons (ps_fld (pv 0) (pe_lst pa_nil) rfl)
      (pss_cons (ps_fld (pv 0) pe_dnewT rfl)
      (pss_cons (ps_fld (pv 0) pe_dnewT rfl)
      (pss_cons (ps_fld (pv 0) (pe_lst pa_nil) rfl)
      (pss_cons (ps_fld (pv 0) pe_dnewT rfl)
      (pss_cons (ps_expr (pe_bm PySem.F.plainAttrs_list PySem.F.slot_list_append PySem.F.type_list_append mt_append (pe_fld (pv 0) rfl) (pa_cons (pe_meth (pv 0) T.cl_Store T.m_Store_small (ok_Store_small T) (hr.mono (by decide)) T.b_Store_small .nil pass0 (pa_cons pe_int (pa_cons pe_int pa_nil))) pa_nil)))
      (pss_one (ps_expr (pe_meth (pv 0) T.cl_Store T.m_Store_small (ok_Store_small T) (hr.mono (by decide)) T.b_Store_small .nil pass0 (pa_cons pe_int (pa_cons pe_int pa_nil)))))))))))))))), ?_⟩
    k_upd
    refine ⟨_, rfl, _, rfl, st, T.C_Store, dx, [], rfl, hst, T.cl_Store, T.na_Store__rule, (by show 0 < 1000; decide), ?_⟩
    have s1 := mutS s0 st0 (o := .ins T.C_Store dx (putF "_rule" (.ref ru) []))
    have g1 : upd H st (.ins T.C_Store dx (putF "_rule" (.ref ru) [])) st = some (.ins T.C_Store dx (putF "_rule" (.ref ru) [])) := upd_same
    generalize upd H st (.ins T.C_Store dx (putF "_rule" (.ref ru) [])) = H1 at s1 g1
    refine ⟨_, rfl, ?_⟩
    intro bo dxb nb ndb neb
    refine ⟨H1, bo, ru, dxb, rfl, madeS nb ndb, nb, upd_same, fun H2 e2 hB => ⟨rfl, ?_⟩⟩
    have g2 := e2 _ _ g1
    have s2 := s1.trans e2
    obtain ⟨dxb, flb, hb1, hb2⟩ := hB
    have bne : bo ≠ st := fun z => by rw [z, g1] at nb; cases nb
    have fne : flb ≠ st := fun z => by rw [z, g2] at hb2; cases hb2
    have bf' : bo ≠ flb := fun z => by rw [z, hb2] at hb1; cases hb1
    have L2 : Have st H2 [(bo, .ins T.C_Blocks dxb (bf ru flb)), (flb, .lst ((List.range 5).map fun l => .int (fullN l : Nat)))] := by
      refine ⟨fun x m => ?_, ?_⟩
      · rcases List.mem_cons.mp m with z | m
        · subst z
          exact ⟨bne, hb1⟩
        · have z := List.mem_singleton.mp m
          subst z
          exact ⟨fne, hb2⟩
      · show [bo, flb].Nodup
        rw [List.nodup_cons]
        exact ⟨fun m => bf' (List.mem_singleton.mp m), List.nodup_cons.mpr ⟨List.not_mem_nil, List.nodup_nil⟩⟩
    refine ⟨_, rfl, st, T.C_Store, dx, _, rfl, g2, T.cl_Store, T.na_Store__blocks, (by show 1 < 1000; decide), ?_⟩
    have s3 := mutS s2 st0 (o := .ins T.C_Store dx (putF "_blocks" (.ref bo) (putF "_rule" (.ref ru) [])))
    have L3 := L2.fld (o := .ins T.C_Store dx (putF "_blocks" (.ref bo) (putF "_rule" (.ref ru) [])))
    have g3 : upd H2 st (.ins T.C_Store dx (putF "_blocks" (.ref bo) (putF "_rule" (.ref ru) []))) st = some (.ins T.C_Store dx (putF "_blocks" (.ref bo) (putF "_rule" (.ref ru) []))) := upd_same
    generalize upd H2 st (.ins T.C_Store dx (putF "_blocks" (.ref bo) (putF "_rule" (.ref ru) []))) = H3 at s3 L3 g3
    refine ⟨by k_clsL, fun la nla => ?_⟩
    k_invariant "new" (nla, J3, d3, y3)
    have M3 := L3.new d3 nla y3 g3
    have t3 := s3.trans d3
    have h3 := d3 _ _ g3
    refine ⟨_, rfl, st, T.C_Store, dx, _, rfl, h3, T.cl_Store, T.na_Store__levels, (by show 2 < 1000; decide), ?_⟩
    have s4 := mutS t3 st0 (o := .ins T.C_Store dx (putF "_levels" (.ref la) (putF "_blocks" (.ref bo) (putF "_rule" (.ref ru) []))))
    have L4 := M3.fld (o := .ins T.C_Store dx (putF "_levels" (.ref la) (putF "_blocks" (.ref bo) (putF "_rule" (.ref ru) []))))
    have g4 : upd J3 st (.ins T.C_Store dx (putF "_levels" (.ref la) (putF "_blocks" (.ref bo) (putF "_rule" (.ref ru) [])))) st = some (.ins T.C_Store dx (putF "_levels" (.ref la) (putF "_blocks" (.ref bo) (putF "_rule" (.ref ru) [])))) := upd_same
    generalize upd J3 st (.ins T.C_Store dx (putF "_levels" (.ref la) (putF "_blocks" (.ref bo) (putF "_rule" (.ref ru) [])))) = H4 at s4 L4 g4 ⊢
    have f_la := backS s3 nla
    clear M3 t3 h3 y3 nla
    refine ⟨by k_clsL, fun ca nca => ?_⟩
    k_invariant "new" (nca, J4, d4, y4)
    have M4 := L4.new d4 nca y4 g4
    have t4 := s4.trans d4
    have h4 := d4 _ _ g4
    refine ⟨_, rfl, st, T.C_Store, dx, _, rfl, h4, T.cl_Store, T.na_Store__counts, (by show 3 < 1000; decide), ?_⟩
    have s5 := mutS t4 st0 (o := .ins T.C_Store dx (putF "_counts" (.ref ca) (putF "_levels" (.ref la) (putF "_blocks" (.ref bo) (putF "_rule" (.ref ru) [])))))
    have L5 := M4.fld (o := .ins T.C_Store dx (putF "_counts" (.ref ca) (putF "_levels" (.ref la) (putF "_blocks" (.ref bo) (putF "_rule" (.ref ru) [])))))
    have g5 : upd J4 st (.ins T.C_Store dx (putF "_counts" (.ref ca) (putF "_levels" (.ref la) (putF "_blocks" (.ref bo) (putF "_rule" (.ref ru) []))))) st = some (.ins T.C_Store dx (putF "_counts" (.ref ca) (putF "_levels" (.ref la) (putF "_blocks" (.ref bo) (putF "_rule" (.ref ru) []))))) := upd_same
    generalize upd J4 st (.ins T.C_Store dx (putF "_counts" (.ref ca) (putF "_levels" (.ref la) (putF "_blocks" (.ref bo) (putF "_rule" (.ref ru) []))))) = H5 at s5 L5 g5 ⊢
    have f_ca := backS s4 nca
    clear M4 t4 h4 y4 nca
    refine ⟨by k_clsL, fun ba nba => ?_⟩
    k_invariant "new" (nba, J5, d5, y5)
    have M5 := L5.new d5 nba y5 g5
    have t5 := s5.trans d5
    have h5 := d5 _ _ g5
    refine ⟨_, rfl, st, T.C_Store, dx, _, rfl, h5, T.cl_Store, T.na_Store__bits, (by show 4 < 1000; decide), ?_⟩
    have s6 := mutS t5 st0 (o := .ins T.C_Store dx (putF "_bits" (.ref ba) (putF "_counts" (.ref ca) (putF "_levels" (.ref la) (putF "_blocks" (.ref bo) (putF "_rule" (.ref ru) []))))))
    have L6 := M5.fld (o := .ins T.C_Store dx (putF "_bits" (.ref ba) (putF "_counts" (.ref ca) (putF "_levels" (.ref la) (putF "_blocks" (.ref bo) (putF "_rule" (.ref ru) []))))))
    have g6 : upd J5 st (.ins T.C_Store dx (putF "_bits" (.ref ba) (putF "_counts" (.ref ca) (putF "_levels" (.ref la) (putF "_blocks" (.ref bo) (putF "_rule" (.ref ru) [])))))) st = some (.ins T.C_Store dx (putF "_bits" (.ref ba) (putF "_counts" (.ref ca) (putF "_levels" (.ref la) (putF "_blocks" (.ref bo) (putF "_rule" (.ref ru) [])))))) := upd_same
    generalize upd J5 st (.ins T.C_Store dx (putF "_bits" (.ref ba) (putF "_counts" (.ref ca) (putF "_levels" (.ref la) (putF "_blocks" (.ref bo) (putF "_rule" (.ref ru) [])))))) = H6 at s6 L6 g6 ⊢
    have f_ba := backS s5 nba
    clear M5 t5 h5 y5 nba
    refine ⟨by k_clsL, fun pa npa => ?_⟩
    k_invariant "new" (npa, J6, d6, y6)
    have M6 := L6.new d6 npa y6 g6
    have t6 := s6.trans d6
    have h6 := d6 _ _ g6
    refine ⟨_, rfl, st, T.C_Store, dx, _, rfl, h6, T.cl_Store, T.na_Store__parts, (by show 5 < 1000; decide), ?_⟩
    have s7 := mutS t6 st0 (o := .ins T.C_Store dx (putF "_parts" (.ref pa) (putF "_bits" (.ref ba) (putF "_counts" (.ref ca) (putF "_levels" (.ref la) (putF "_blocks" (.ref bo) (putF "_rule" (.ref ru) [])))))))
    have L7 := M6.fld (o := .ins T.C_Store dx (putF "_parts" (.ref pa) (putF "_bits" (.ref ba) (putF "_counts" (.ref ca) (putF "_levels" (.ref la) (putF "_blocks" (.ref bo) (putF "_rule" (.ref ru) [])))))))
    have g7 : upd J6 st (.ins T.C_Store dx (putF "_parts" (.ref pa) (putF "_bits" (.ref ba) (putF "_counts" (.ref ca) (putF "_levels" (.ref la) (putF "_blocks" (.ref bo) (putF "_rule" (.ref ru) []))))))) st = some (.ins T.C_Store dx (putF "_parts" (.ref pa) (putF "_bits" (.ref ba) (putF "_counts" (.ref ca) (putF "_levels" (.ref la) (putF "_blocks" (.ref bo) (putF "_rule" (.ref ru) []))))))) := upd_same
    generalize upd J6 st (.ins T.C_Store dx (putF "_parts" (.ref pa) (putF "_bits" (.ref ba) (putF "_counts" (.ref ca) (putF "_levels" (.ref la) (putF "_blocks" (.ref bo) (putF "_rule" (.ref ru) []))))))) = H7 at s7 L7 g7 ⊢
    have f_pa := backS s6 npa
    clear M6 t6 h6 y6 npa
    refine fun sm nsm => ?_
    k_invariant "new" (nsm, J7, d7, y7)
    have M7 := L7.new d7 nsm y7 g7
    have t7 := s7.trans d7
    have h7 := d7 _ _ g7
    refine ⟨_, rfl, st, T.C_Store, dx, _, rfl, h7, T.cl_Store, T.na_Store__small, (by show 6 < 1000; decide), ?_⟩
    have s8 := mutS t7 st0 (o := .ins T.C_Store dx (putF "_small" (.ref sm) (putF "_parts" (.ref pa) (putF "_bits" (.ref ba) (putF "_counts" (.ref ca) (putF "_levels" (.ref la) (putF "_blocks" (.ref bo) (putF "_rule" (.ref ru) []))))))))
    have L8 := M7.fld (o := .ins T.C_Store dx (putF "_small" (.ref sm) (putF "_parts" (.ref pa) (putF "_bits" (.ref ba) (putF "_counts" (.ref ca) (putF "_levels" (.ref la) (putF "_blocks" (.ref bo) (putF "_rule" (.ref ru) []))))))))
    have g8 : upd J7 st (.ins T.C_Store dx (putF "_small" (.ref sm) (putF "_parts" (.ref pa) (putF "_bits" (.ref ba) (putF "_counts" (.ref ca) (putF "_levels" (.ref la) (putF "_blocks" (.ref bo) (putF "_rule" (.ref ru) [])))))))) st = some (.ins T.C_Store dx (putF "_small" (.ref sm) (putF "_parts" (.ref pa) (putF "_bits" (.ref ba) (putF "_counts" (.ref ca) (putF "_levels" (.ref la) (putF "_blocks" (.ref bo) (putF "_rule" (.ref ru) [])))))))) := upd_same
    generalize upd J7 st (.ins T.C_Store dx (putF "_small" (.ref sm) (putF "_parts" (.ref pa) (putF "_bits" (.ref ba) (putF "_counts" (.ref ca) (putF "_levels" (.ref la) (putF "_blocks" (.ref bo) (putF "_rule" (.ref ru) [])))))))) = H8 at s8 L8 g8 ⊢
    have f_sm := backS s7 nsm
    clear M7 t7 h7 y7 nsm
    refine fun lg nlg => ?_
    k_invariant "new" (nlg, J8, d8, y8)
    have M8 := L8.new d8 nlg y8 g8
    have t8 := s8.trans d8
    have h8 := d8 _ _ g8
    refine ⟨_, rfl, st, T.C_Store, dx, _, rfl, h8, T.cl_Store, T.na_Store__large, (by show 7 < 1000; decide), ?_⟩
    have s9 := mutS t8 st0 (o := .ins T.C_Store dx (putF "_large" (.ref lg) (putF "_small" (.ref sm) (putF "_parts" (.ref pa) (putF "_bits" (.ref ba) (putF "_counts" (.ref ca) (putF "_levels" (.ref la) (putF "_blocks" (.ref bo) (putF "_rule" (.ref ru) [])))))))))
    have L9 := M8.fld (o := .ins T.C_Store dx (putF "_large" (.ref lg) (putF "_small" (.ref sm) (putF "_parts" (.ref pa) (putF "_bits" (.ref ba) (putF "_counts" (.ref ca) (putF "_levels" (.ref la) (putF "_blocks" (.ref bo) (putF "_rule" (.ref ru) [])))))))))
    have g9 : upd J8 st (.ins T.C_Store dx (putF "_large" (.ref lg) (putF "_small" (.ref sm) (putF "_parts" (.ref pa) (putF "_bits" (.ref ba) (putF "_counts" (.ref ca) (putF "_levels" (.ref la) (putF "_blocks" (.ref bo) (putF "_rule" (.ref ru) []))))))))) st = some (.ins T.C_Store dx (putF "_large" (.ref lg) (putF "_small" (.ref sm) (putF "_parts" (.ref pa) (putF "_bits" (.ref ba) (putF "_counts" (.ref ca) (putF "_levels" (.ref la) (putF "_blocks" (.ref bo) (putF "_rule" (.ref ru) []))))))))) := upd_same
    generalize upd J8 st (.ins T.C_Store dx (putF "_large" (.ref lg) (putF "_small" (.ref sm) (putF "_parts" (.ref pa) (putF "_bits" (.ref ba) (putF "_counts" (.ref ca) (putF "_levels" (.ref la) (putF "_blocks" (.ref bo) (putF "_rule" (.ref ru) []))))))))) = H9 at s9 L9 g9 ⊢
    have f_lg := backS s8 nlg
    clear M8 t8 h8 y8 nlg
    refine ⟨by k_clsL, fun em nem => ?_⟩
    k_invariant "new" (nem, J9, d9, y9)
    have M9 := L9.new d9 nem y9 g9
    have t9 := s9.trans d9
    have h9 := d9 _ _ g9
    refine ⟨_, rfl, st, T.C_Store, dx, _, rfl, h9, T.cl_Store, T.na_Store__empty, (by show 8 < 1000; decide), ?_⟩
    have s10 := mutS t9 st0 (o := .ins T.C_Store dx (putF "_empty" (.ref em) (putF "_large" (.ref lg) (putF "_small" (.ref sm) (putF "_parts" (.ref pa) (putF "_bits" (.ref ba) (putF "_counts" (.ref ca) (putF "_levels" (.ref la) (putF "_blocks" (.ref bo) (putF "_rule" (.ref ru) []))))))))))
    have L10 := M9.fld (o := .ins T.C_Store dx (putF "_empty" (.ref em) (putF "_large" (.ref lg) (putF "_small" (.ref sm) (putF "_parts" (.ref pa) (putF "_bits" (.ref ba) (putF "_counts" (.ref ca) (putF "_levels" (.ref la) (putF "_blocks" (.ref bo) (putF "_rule" (.ref ru) []))))))))))
    have g10 : upd J9 st (.ins T.C_Store dx (putF "_empty" (.ref em) (putF "_large" (.ref lg) (putF "_small" (.ref sm) (putF "_parts" (.ref pa) (putF "_bits" (.ref ba) (putF "_counts" (.ref ca) (putF "_levels" (.ref la) (putF "_blocks" (.ref bo) (putF "_rule" (.ref ru) [])))))))))) st = some (.ins T.C_Store dx (putF "_empty" (.ref em) (putF "_large" (.ref lg) (putF "_small" (.ref sm) (putF "_parts" (.ref pa) (putF "_bits" (.ref ba) (putF "_counts" (.ref ca) (putF "_levels" (.ref la) (putF "_blocks" (.ref bo) (putF "_rule" (.ref ru) [])))))))))) := upd_same
    generalize upd J9 st (.ins T.C_Store dx (putF "_empty" (.ref em) (putF "_large" (.ref lg) (putF "_small" (.ref sm) (putF "_parts" (.ref pa) (putF "_bits" (.ref ba) (putF "_counts" (.ref ca) (putF "_levels" (.ref la) (putF "_blocks" (.ref bo) (putF "_rule" (.ref ru) [])))))))))) = H10 at s10 L10 g10 ⊢
    have f_em := backS s9 nem
    clear M9 t9 h9 y9 nem
    refine fun fu nfu => ?_
    k_invariant "new" (nfu, J10, d10, y10)
    have M10 := L10.new d10 nfu y10 g10
    have t10 := s10.trans d10
    have h10 := d10 _ _ g10
    refine ⟨_, rfl, st, T.C_Store, dx, _, rfl, h10, T.cl_Store, T.na_Store__futures, (by show 9 < 1000; decide), ?_⟩
    have s11 := mutS t10 st0 (o := .ins T.C_Store dx (putF "_futures" (.ref fu) (putF "_empty" (.ref em) (putF "_large" (.ref lg) (putF "_small" (.ref sm) (putF "_parts" (.ref pa) (putF "_bits" (.ref ba) (putF "_counts" (.ref ca) (putF "_levels" (.ref la) (putF "_blocks" (.ref bo) (putF "_rule" (.ref ru) [])))))))))))
    have L11 := M10.fld (o := .ins T.C_Store dx (putF "_futures" (.ref fu) (putF "_empty" (.ref em) (putF "_large" (.ref lg) (putF "_small" (.ref sm) (putF "_parts" (.ref pa) (putF "_bits" (.ref ba) (putF "_counts" (.ref ca) (putF "_levels" (.ref la) (putF "_blocks" (.ref bo) (putF "_rule" (.ref ru) [])))))))))))
    have g11 : upd J10 st (.ins T.C_Store dx (putF "_futures" (.ref fu) (putF "_empty" (.ref em) (putF "_large" (.ref lg) (putF "_small" (.ref sm) (putF "_parts" (.ref pa) (putF "_bits" (.ref ba) (putF "_counts" (.ref ca) (putF "_levels" (.ref la) (putF "_blocks" (.ref bo) (putF "_rule" (.ref ru) []))))))))))) st = some (.ins T.C_Store dx (putF "_futures" (.ref fu) (putF "_empty" (.ref em) (putF "_large" (.ref lg) (putF "_small" (.ref sm) (putF "_parts" (.ref pa) (putF "_bits" (.ref ba) (putF "_counts" (.ref ca) (putF "_levels" (.ref la) (putF "_blocks" (.ref bo) (putF "_rule" (.ref ru) []))))))))))) := upd_same
    generalize upd J10 st (.ins T.C_Store dx (putF "_futures" (.ref fu) (putF "_empty" (.ref em) (putF "_large" (.ref lg) (putF "_small" (.ref sm) (putF "_parts" (.ref pa) (putF "_bits" (.ref ba) (putF "_counts" (.ref ca) (putF "_levels" (.ref la) (putF "_blocks" (.ref bo) (putF "_rule" (.ref ru) []))))))))))) = H11 at s11 L11 g11 ⊢
    have f_fu := backS s10 nfu
    clear M10 t10 h10 y10 nfu
    obtain ⟨kf, nd⟩ := L11
    simp only [List.mem_cons, List.not_mem_nil, or_false, forall_eq_or_imp, forall_eq] at kf
    obtain ⟨⟨nfu, kfu⟩, ⟨nem, kem⟩, ⟨nlg, klg⟩, ⟨nsm, ksm⟩, ⟨npa, kpa⟩, ⟨nba, kba⟩, ⟨nca, kca⟩, ⟨nla, kla⟩, ⟨_, kbo⟩, ⟨_, kfl⟩⟩ := kf
    simp only [List.map_cons, List.map_nil, List.nodup_cons, List.mem_cons, List.not_mem_nil, or_false, not_or] at nd
    obtain ⟨A0, eA⟩ : ∃ A0 : GA, A0 = ⟨st, bo, la, ca, ba, pa, sm, lg, em, fu, 0⟩ := ⟨_, rfl⟩
    have eM : A0.M = [la, ca, ba, pa, sm, lg, em, fu] := by rw [eA]; rfl
    obtain ⟨⟨z1, z2, z3, z4, z5, z6, z7, z8, z9⟩, ⟨a1, a2, a3, a4, a5, a6, a7, a8⟩, ⟨x1, x2, x3, x4, x5, x6, x7⟩, ⟨b1, b2, b3, b4, b5, b6⟩, ⟨c1, c2, c3, c4, c5⟩, ⟨d1, d2, d3, d4⟩, ⟨e1, e2, e3⟩, ⟨r1, r2⟩, _⟩ := nd
    have ndA : (A0.st :: A0.M).Nodup := by
      rw [eM, eA]
      simp only [List.nodup_cons, List.mem_cons, List.not_mem_nil, or_false, not_or, not_false_eq_true, List.nodup_nil, and_true]
      and_intros <;> (intro z; have z' := z.symm; contradiction)
    have boM : bo ∉ A0.M := by
      rw [eM]
      simp only [List.mem_cons, List.not_mem_nil, or_false, not_or]
      and_intros <;> (intro z; have z' := z.symm; contradiction)
    have flM : flb ∉ A0.M := by
      rw [eM]
      simp only [List.mem_cons, List.not_mem_nil, or_false, not_or]
      and_intros <;> (intro z; have z' := z.symm; contradiction)
    have stM : st ∉ A0.M := by
      have := (List.nodup_cons.mp ndA).1
      rw [eA] at this ⊢
      exact this
    have keep : ∀ b o, b ∉ A0.M → H11 b = some o → hide A0.M H11 b = some o := fun b o n e => by rw [hide_out n]; exact e
    have fr0 : ∀ m ∈ A0.M, H0 m = none := fun m hm => by
      rw [eM] at hm
      simp only [List.mem_cons, List.not_mem_nil, or_false] at hm
      rcases hm with z | z | z | z | z | z | z | z <;> rw [z] <;> assumption
    have frr : Same H0 (hide A0.M H11) := fun b o e => by
      rw [hide_out fun m => by rw [fr0 b m] at e; cases e]
      exact s11 _ _ e
    have hS : GS T.C_Store T.C_Blocks T.C_Rule bs ss H11 A0 [] 0 := by
      refine ⟨⟨dx, ru, ?_⟩, ⟨dxb, ru, flb, ?_, keep _ _ flM kfl, hru.up frr⟩, by rw [eA]; exact kla, by rw [eA]; exact kca, by rw [eA]; exact kba, ⟨[], by rw [eA]; exact kpa, rfl, fun i e h => (by cases h)⟩, ⟨[], by rw [eA]; exact ksm, Nat.le_refl _, fun x v h => (by cases h)⟩, ⟨[], by rw [eA]; exact klg, Nat.le_refl _, fun a b c d v h => (by cases h)⟩, ⟨[], by rw [eA]; exact kem, by rw [eA]; exact Nat.le_refl _, by decide, fun i n h => (by cases h)⟩, ⟨[], by rw [eA]; exact kfu, Nat.le_refl _, fun n j v h => (by cases h)⟩, fun i e h => (by cases h), Nat.le_refl _, ndA⟩
      · have := keep _ _ stM g11
        rw [eA] at this ⊢
        exact this
      · have := keep _ _ boM kbo
        rw [eA] at this ⊢
        exact this
    have fit0 : Fit 0 0 := fun i z => by rw [Nat.zero_testBit] at z; cases z
    have fit1 : Fit 0 1 := fun i z => by
      rw [show (1 : Nat) = 2 ^ 0 from rfl, Nat.testBit_two_pow, decide_eq_true_eq] at z
      omega
    subst eA
    refine ⟨_, rfl, st, _, _, _, _, rfl, g11, T.cl_Store, T.na_Store__empty, rfl, .inl ⟨rfl, _, lst_of kem⟩, _, rfl, st, _, _, rfl, g11, rfl, ?_⟩
    refine ⟨⟨st, bo, la, ca, ba, pa, sm, lg, em, fu, 0⟩, [], 0, 0, 0, bs, ss, rfl, hS, by decide, fit0, by decide, fun H12 G1 n1 u1 gr1 en1 ul1 ub1 uL1 ke => ?_⟩
    have kem2 := ke _ kem
    have uz : ∀ r c, u1.L r c = false := fun r c => by
      rw [uL1]
      unfold blL
      rw [Nat.zero_testBit, Bool.and_false]
    obtain ⟨hS2, hh2⟩ := gr1.st.emp (es := []) kem2 en1 ul1 uz (by decide)
    refine ⟨_, _, _, rfl, rfl, kem2, by decide, ?_⟩
    have fr4 : Same (hide [la, ca, ba, pa, sm, lg, em, fu] H11) (hide [la, ca, ba, pa, sm, lg, em, fu] (upd H12 em (.lst (intL [] ++ [.int (n1 : Int)])))) := by
      have : hide [la, ca, ba, pa, sm, lg, em, fu] (upd H12 em (.lst (intL [] ++ [.int (n1 : Int)]))) = hide [la, ca, ba, pa, sm, lg, em, fu] H12 := hh2
      rw [this]
      exact gr1.fr
    have kem3 : upd H12 em (.lst (intL [] ++ [.int (n1 : Int)])) em = some (.lst [.int (n1 : Int)]) := upd_same
    have hS2 : GS T.C_Store T.C_Blocks T.C_Rule bs ss (upd H12 em (.lst (intL [] ++ [.int (n1 : Int)]))) ⟨st, bo, la, ca, ba, pa, sm, lg, em, fu, 0⟩ G1 1 := hS2
    show tNext _ _ (upd H12 em (.lst (intL [] ++ [.int (n1 : Int)])))
    generalize upd H12 em (.lst (intL [] ++ [.int (n1 : Int)])) = H13 at hS2 fr4 kem3 ⊢
    obtain ⟨dx2, ru2, ho2⟩ := hS2.ob
    refine ⟨_, rfl, st, _, _, rfl, ho2, rfl, ?_⟩
    refine ⟨⟨st, bo, la, ca, ba, pa, sm, lg, em, fu, 0⟩, G1, 1, 0, 1, bs, ss, rfl, hS2, by decide, fit1, by decide, fun H14 G2 n2 u2 gr2 _ _ _ _ ke2 => ?_⟩
    have all : Same (hide [la, ca, ba, pa, sm, lg, em, fu] H11) (hide [la, ca, ba, pa, sm, lg, em, fu] H14) := fr4.trans gr2.fr
    refine q H14 ⟨st, bo, la, ca, ba, pa, sm, lg, em, fu, 1⟩ G2 rfl (Nat.le_refl _) (frr.trans all) ?_
    obtain ⟨o, r, l, c, b, p, s', g, ⟨es, w1, w2, w3, w4⟩, f, wf, sz, nd⟩ := gr2.st
    refine ⟨o, r, l, c, b, p, s', g, ⟨es, w1, ?_, w3, w4⟩, f, wf, sz, nd⟩
    have w5 := ke2 _ kem3
    have w1 : H14 em = some (.lst (intL es)) := w1
    rw [w5] at w1
    injection Option.some.inj w1 with z
    have := congrArg List.length z
    unfold intL at this
    rw [List.length_map] at this
    show 1 ≤ es.length
    rw [← this]
    exact Nat.le_refl _
end
end My
namespace My
open PySem PySem.Spec PyProof.Rows L2 Vx
open TL
local macro_rules | `(tactic| k_invariant "new" ($n, $H:ident, $e:ident, $h:ident)) => `(tactic| (generalize hE : upd _ _ _ = $H; obtain ⟨$e:ident, $h:ident⟩ := gen_e hE $n; clear hE))
local macro_rules | `(tactic| k_places) => `(tactic| first
  | assumption
  | exact lst_of (by assumption)
  | exact tup_of (by assumption)
  | (refine getS (by assumption) ?_; k_places)
  | (refine Same.seq (by assumption) ?_; k_places)
  | (refine tupS (by assumption) ?_; k_places)
  | (refine lst_of ?_; k_places)
  | (refine tup_of ?_; k_places))
local macro_rules | `(tactic| k_subL) => `(tactic| first
  | k_places
  | solve_by_elim (maxDepth := 10) [getS, lst_of, tup_of, Same.seq, tupS])
local macro_rules | `(tactic| k_offL) => `(tactic| first
  | (show (0 : Int) < _; first | omega | decide)
  | (refine ⟨?_, ?_⟩ <;> first | omega | decide)
  | exact .inr ⟨by decide, by decide⟩
  | exact .inl ⟨by decide, by decide⟩
  | exact .inl ⟨by omega, by omega⟩
  | omega)
local macro_rules | `(tactic| k_clsL) => `(tactic| exact Nat.le_of_ble_eq_true rfl)
local macro_rules | `(tactic| k_upd) => `(tactic| simp only [L2.start, List.map_cons, List.map_nil, List.length_cons, List.length_nil, List.replicate_succ, List.replicate_zero, List.cons_append, List.nil_append, List.set_cons_zero, List.set_cons_succ])
section
variable {P : Program} {w : World} {K : PySem.W.Frag} {mg : Str → Option Value} {base : Heap}
theorem dT_kind (kvs : List (List L2.Key × V)) : (∀ C dx fs, (HO.dT kvs) ≠ .ins C dx fs) ∧ (∀ xs, (HO.dT kvs) ≠ .lst xs) ∧ ∀ xs, (HO.dT kvs) ≠ .tup xs := ⟨fun _ _ _ z => (by cases z), fun _ z => (by cases z), fun _ z => (by cases z)⟩
theorem putAt_upd {H H' : Hp} {d : Addr} {ps : List Pr} {g : Pr → V} {x : Pr} {v : V} (p : PutAt H d ps g x v H') : ∃ o, H' = upd H d o := by
  obtain ⟨⟨kvs, w, _⟩, h⟩ := p
  refine ⟨.dT kvs, funext fun b => ?_⟩
  by_cases c : b = d
  · rw [c, upd_same]
    exact w
  · rw [upd_ne c, h b c]
theorem and1 (r : Int) : Builtin.bitAnd r 1 = r % 2 := by
  unfold Builtin.bitAnd
  by_cases h : 0 ≤ r
  · rw [decide_eq_true h]
    show ((r.toNat &&& 1 : Nat) : Int) = r % 2
    rw [Nat.and_two_pow_sub_one_eq_mod r.toNat 1]
    show ((r.toNat % 2 : Nat) : Int) = r % 2
    omega
  · rw [decide_eq_false h]
    show (1 : Int) - ((1 &&& (Builtin.bitNot r).toNat : Nat) : Int) = r % 2
    rw [Nat.and_comm, Nat.and_two_pow_sub_one_eq_mod (Builtin.bitNot r).toNat 1]
    show (1 : Int) - (((Builtin.bitNot r).toNat % 2 : Nat) : Int) = r % 2
    have e : Builtin.bitNot r = -r - 1 := by
      unfold Builtin.bitNot
      omega
    rw [e]
    omega
theorem GS.lock {C CB CR : Addr} {bs ss : List Int} {H : Hp} {A : GA} {G : List Ent} {S : Nat} {d : Addr} {o : HO} {kvs : List (List L2.Key × V)} (h : GS C CB CR bs ss H A G S) (hd : H d = some (.dT kvs)) (dM : d ∉ A.M) : GS C CB CR bs ss (upd H d o) A G S := by
  have off : ∀ {b : Addr}, b ∈ A.M → b ≠ d := fun m z => dM (z ▸ m)
  have ne : ∀ {b : Addr} {u : HO}, hide A.M H b = some u → (∀ kvs, u ≠ .dT kvs) → b ≠ d := fun e n z => by
    rw [z, hide_out dM, hd] at e
    exact n _ (Option.some.inj e).symm
  have up : ∀ {b : Addr} {u : HO}, hide A.M H b = some u → (∀ kvs, u ≠ .dT kvs) → hide A.M (upd H d o) b = some u := fun e n => by
    rw [hide_updO dM, upd_ne (ne e n)]
    exact e
  obtain ⟨⟨dx, ru, h1⟩, ⟨bx, br, bf', b1, b2, dx2, tb, ts, b3, b4, b5⟩, h3, h4, h5, ⟨us, p1, p2, p3⟩, ⟨k1, a1, a2, a3⟩, ⟨k2, c1, c2, c3⟩, ⟨es, d1, d2⟩, ⟨k3, e1, e2, e3⟩, h11, h12, h13⟩ := h
  have m : A.la ∈ A.M ∧ A.ca ∈ A.M ∧ A.ba ∈ A.M ∧ A.pa ∈ A.M ∧ A.sm ∈ A.M ∧ A.lg ∈ A.M ∧ A.em ∈ A.M ∧ A.fu ∈ A.M := by simp only [GA.M, List.mem_cons, true_or, or_true, and_self]
  obtain ⟨m1, m2, m3, m4, m5, m6, m7, m8⟩ := m
  refine ⟨⟨dx, ru, up h1 fun _ z => by cases z⟩, ⟨bx, br, bf', up b1 (fun _ z => by cases z), up b2 (fun _ z => by cases z), dx2, tb, ts, up b3 (fun _ z => by cases z), up b4 (fun _ z => by cases z), up b5 (fun _ z => by cases z)⟩, by rw [upd_ne (off m1)]; exact h3, by rw [upd_ne (off m2)]; exact h4, by rw [upd_ne (off m3)]; exact h5, ⟨us, by rw [upd_ne (off m4)]; exact p1, p2, fun i u hi hl => ?_⟩, ⟨k1, by rw [upd_ne (off m5)]; exact a1, a2, a3⟩, ⟨k2, by rw [upd_ne (off m6)]; exact c1, c2, c3⟩, ⟨es, by rw [upd_ne (off m7)]; exact d1, d2⟩, ⟨k3, by rw [upd_ne (off m8)]; exact e1, e2, e3⟩, h11, h12, h13⟩
  obtain ⟨t, t1, t2⟩ := p3 i u hi hl
  exact ⟨t, t1, up t2 fun _ z => by cases z⟩
/-- the store grows while a dict is locked -/
theorem Gg.unlock {C CB CR : Addr} {bs ss : List Int} {H H2 : Hp} {A : GA} {G G2 : List Ent} {S k : Nat} {d : Addr} {o : HO} {kvs : List (List L2.Key × V)} (hd : H d = some (.dT kvs)) (dM : d ∉ A.M) (no : ∀ kvs, o ≠ .dT kvs) (nt : ∀ xs, o ≠ .tup xs) (ni : ∀ C dx fs, o ≠ .ins C dx fs) (nl : ∀ xs, o ≠ .lst xs)
    (h : Gg C CB CR bs ss A k (upd H d o) G S H2 G2) : Gg C CB CR bs ss A k H G S (upd H2 d (.dT kvs)) G2 := by
  have hd2 : H2 d = some o := h.fresh upd_same dM
  have off : ∀ {b : Addr}, b ∈ A.M → b ≠ d := fun m z => dM (z ▸ m)
  have fM : A.fu ∈ A.M := by simp only [GA.M, List.mem_cons, true_or, or_true]
  refine ⟨fun b v e => ?_, ?_, h.pre, (h.fk.pre fun o z => ?_).step fun o z => ?_⟩
  · by_cases c : b = d
    · rw [c, hide_out dM] at e ⊢
      rw [upd_same, ← hd]
      exact e
    · rw [hide_updO dM, upd_ne c]
      exact h.fr b v (by rw [hide_updO dM, upd_ne c]; exact e)
  · have up : ∀ {b : Addr} {u : HO}, hide A.M H2 b = some u → u ≠ o → hide A.M (upd H2 d (.dT kvs)) b = some u := fun {b u} e n => by
      rw [hide_updO dM, upd_ne fun z => by rw [z, hide_out dM, hd2] at e; exact n (Option.some.inj e).symm]
      exact e
    obtain ⟨⟨dx, ru, h1⟩, ⟨bx, br, bf', b1, b2, dx2, tb, ts, b3, b4, b5⟩, h3, h4, h5, ⟨us, p1, p2, p3⟩, ⟨k1, a1, a2, a3⟩, ⟨k2, c1, c2, c3⟩, ⟨es, d1, d2⟩, ⟨k3, e1, e2, e3⟩, h11, h12, h13⟩ := h.st
    have m : A.la ∈ A.M ∧ A.ca ∈ A.M ∧ A.ba ∈ A.M ∧ A.pa ∈ A.M ∧ A.sm ∈ A.M ∧ A.lg ∈ A.M ∧ A.em ∈ A.M ∧ A.fu ∈ A.M := by simp only [GA.M, List.mem_cons, true_or, or_true, and_self]
    obtain ⟨m1, m2, m3, m4, m5, m6, m7, m8⟩ := m
    refine ⟨⟨dx, ru, up h1 (ni _ _ _).symm⟩, ⟨bx, br, bf', up b1 (ni _ _ _).symm, up b2 (nl _).symm, dx2, tb, ts, up b3 (ni _ _ _).symm, up b4 (nt _).symm, up b5 (nt _).symm⟩, by rw [upd_ne (off m1)]; exact h3, by rw [upd_ne (off m2)]; exact h4, by rw [upd_ne (off m3)]; exact h5, ⟨us, by rw [upd_ne (off m4)]; exact p1, p2, fun i u hi hl => ?_⟩, ⟨k1, by rw [upd_ne (off m5)]; exact a1, a2, a3⟩, ⟨k2, by rw [upd_ne (off m6)]; exact c1, c2, c3⟩, ⟨es, by rw [upd_ne (off m7)]; exact d1, d2⟩, ⟨k3, by rw [upd_ne (off m8)]; exact e1, e2, e3⟩, h11, h12, h13⟩
    obtain ⟨t, t1, t2⟩ := p3 i u hi hl
    exact ⟨t, t1, up t2 (nt _).symm⟩
  · rw [upd_ne (off fM)]
    exact z
  · rw [upd_ne (off fM)]
    exact z
/-- a layout of level l that shows X -/
structure LayG (M : List Addr) (H : Hp) (G : List Ent) (d : Addr) (l : Nat) (ks : List Pr) (X : Int → Int → Bool) : Prop where
  dct : ∃ f : Pr → Nat, Dct (hide M H) d ks (fun p => .int (f p : Nat)) ∧ ∀ p ∈ ks, ∃ u, G[f p]? = some u ∧ u.l = l ∧ Sub X ((2 ^ l : Nat) : Int) (p.1 * ((2 ^ l : Nat) : Int)) (p.2 * ((2 ^ l : Nat) : Int)) u.L
  cov : ∀ r c, X r c = true → (r / ((2 ^ l : Nat) : Int), c / ((2 ^ l : Nat) : Int)) ∈ ks
theorem LayG.gr {C CB CR : Addr} {bs ss : List Int} {A : GA} {k S : Nat} {H H' : Hp} {G G' : List Ent} {d : Addr} {l : Nat} {ks : List Pr} {X : Int → Int → Bool} (q : Gg C CB CR bs ss A k H G S H' G') (h : LayG A.M H G d l ks X) : LayG A.M H' G' d l ks X := by
  obtain ⟨⟨f, h1, h2⟩, h3⟩ := h
  exact ⟨⟨f, h1.up q.fr, fun p m => by
    obtain ⟨u, u1, u2⟩ := h2 p m
    exact ⟨u, preG q.pre u1, u2⟩⟩, h3⟩
def halfP (p : Pr) : Pr := (p.1 / 2, p.2 / 2)
def partP (z : Pr) (j : Nat) : Pr := (z.1 * 2 + ((j / 2 : Nat) : Int), z.2 * 2 + ((j % 2 : Nat) : Int))
theorem half_part (z : Pr) {j : Nat} (hj : j < 4) : halfP (partP z j) = z := by
  unfold halfP partP
  exact Prod.ext (by dsimp only; omega) (by dsimp only; omega)
def ixP (p : Pr) : Nat := (p.1 % 2).toNat * 2 + (p.2 % 2).toNat
theorem ix_part (z : Pr) {j : Nat} (hj : j < 4) : ixP (partP z j) = j := by
  unfold ixP partP
  dsimp only
  omega
theorem part_of (p : Pr) : partP (halfP p) (ixP p) = p := by
  unfold ixP partP halfP
  exact Prod.ext (by dsimp only; omega) (by dsimp only; omega)
end
end My
namespace My
open PySem PySem.Spec PyProof.Rows L2 Vx
open TL
local macro_rules | `(tactic| k_invariant "new" ($n, $H:ident, $e:ident, $h:ident)) => `(tactic| (generalize hE : upd _ _ _ = $H; obtain ⟨$e:ident, $h:ident⟩ := gen_e hE $n; clear hE))
local macro_rules | `(tactic| k_places) => `(tactic| first
  | assumption
  | exact lst_of (by assumption)
  | exact tup_of (by assumption)
  | (refine getS (by assumption) ?_; k_places)
  | (refine Same.seq (by assumption) ?_; k_places)
  | (refine tupS (by assumption) ?_; k_places)
  | (refine lst_of ?_; k_places)
  | (refine tup_of ?_; k_places))
local macro_rules | `(tactic| k_subL) => `(tactic| first
  | k_places
  | solve_by_elim (maxDepth := 10) [getS, lst_of, tup_of, Same.seq, tupS])
local macro_rules | `(tactic| k_offL) => `(tactic| first
  | (show (0 : Int) < _; first | omega | decide)
  | (refine ⟨?_, ?_⟩ <;> first | omega | decide)
  | exact .inr ⟨by decide, by decide⟩
  | exact .inl ⟨by decide, by decide⟩
  | exact .inl ⟨by omega, by omega⟩
  | omega)
local macro_rules | `(tactic| k_clsL) => `(tactic| exact Nat.le_of_ble_eq_true rfl)
local macro_rules | `(tactic| k_upd) => `(tactic| simp only [L2.start, List.map_cons, List.map_nil, List.length_cons, List.length_nil, List.replicate_succ, List.replicate_zero, List.cons_append, List.nil_append, List.set_cons_zero, List.set_cons_succ])
section
variable {P : Program} {w : World} {K : PySem.W.Frag} {mg : Str → Option Value} {base : Heap}
theorem half_div {p : Int} (h : 0 < p) (r c : Int) : halfP (r / p, c / p) = (r / (2 * p), c / (2 * p)) := by
  unfold halfP
  dsimp only
  rw [Int.mul_comm 2 p, Int.ediv_ediv, Int.ediv_ediv, if_neg (by omega), if_neg (by omega), Int.sub_zero, Int.sub_zero]
theorem sub_at {X L : Int → Int → Bool} {p a b r c : Int} (h : 0 < p) (hs : Sub X p (a * p) (b * p) L) (ea : r / p = a) (eb : c / p = b) : L (r % p) (c % p) = X r c := by
  rw [hs _ _ (Int.emod_nonneg _ (by omega)) (Int.emod_lt_of_pos _ h) (Int.emod_nonneg _ (by omega)) (Int.emod_lt_of_pos _ h), ← ea, ← eb, Int.mul_comm (r / p), Int.mul_comm (c / p), Int.emod_add_mul_ediv, Int.emod_add_mul_ediv]
theorem part_sub {X L A B C D : Int → Int → Bool} {p : Int} {z : Pr} (h : 0 < p) (hs : Sub X (2 * p) (z.1 * (2 * p)) (z.2 * (2 * p)) L) (e : L = quadL p A B C D) :
    Sub X p ((partP z 0).1 * p) ((partP z 0).2 * p) A ∧ Sub X p ((partP z 1).1 * p) ((partP z 1).2 * p) B ∧ Sub X p ((partP z 2).1 * p) ((partP z 2).2 * p) C ∧ Sub X p ((partP z 3).1 * p) ((partP z 3).2 * p) D := by
  obtain ⟨q0, q1, q2, q3⟩ := quad_subs h A B C D
  rw [← e] at q0 q1 q2 q3
  have e0 : ∀ x : Int, (x * 2 + ((0 : Nat) : Int)) * p = x * (2 * p) + 0 := fun x => by rw [Int.natCast_zero, Int.add_zero, Int.add_zero, Int.mul_assoc]
  have e1 : ∀ x : Int, (x * 2 + ((1 : Nat) : Int)) * p = x * (2 * p) + p := fun x => by rw [Int.add_mul, Int.mul_assoc]; show _ + (1 : Int) * p = _; rw [Int.one_mul]
  refine ⟨(hs.trans q0 (by omega) (by omega) (by omega) (by omega)).at (e0 _).symm (e0 _).symm, (hs.trans q1 (by omega) (by omega) (by omega) (by omega)).at (e0 _).symm (e1 _).symm, (hs.trans q2 (by omega) (by omega) (by omega) (by omega)).at (e1 _).symm (e0 _).symm, (hs.trans q3 (by omega) (by omega) (by omega) (by omega)).at (e1 _).symm (e1 _).symm⟩
def LowP (G : List Ent) (l : Nat) (X : Int → Int → Bool) (f : Pr → Nat) (ls : List Pr) : Prop := ∀ p ∈ ls, ∃ u, G[f p]? = some u ∧ u.l = l ∧ Sub X ((2 ^ l : Nat) : Int) (p.1 * ((2 ^ l : Nat) : Int)) (p.2 * ((2 ^ l : Nat) : Int)) u.L
theorem LowP.up {G G' : List Ent} {l : Nat} {X : Int → Int → Bool} {f : Pr → Nat} {ls : List Pr} (h : LowP G l X f ls) (pr : G <+: G') : LowP G' l X f ls := fun p m => by
  obtain ⟨u, u1, u2⟩ := h p m
  exact ⟨u, preG pr u1, u2⟩
def sp_lowered (C CB CR : Addr) : Sp := fun vs H Q _ => ∃ (A : GA) (G : List Ent) (S : Nat) (d : Addr) (l : Nat) (ks : List Pr) (X : Int → Int → Bool) (bs ss : List Int), vs = [.ref A.st, .ref d] ∧ GS C CB CR bs ss H A G S ∧ LayG A.M H G d (l + 1) ks X ∧ ks.length < 1000000 ∧ S + 4 * ks.length < 7000000 ∧
  ∀ (H' : Hp) (G' : List Ent) (d' : Addr) (ks' : List Pr), Gg C CB CR bs ss A (4 * ks.length) H G S H' G' → H d' = none → LayG A.M H' G' d' l ks' X → ks'.length ≤ 4 * ks.length → Q (.ref d') H'
theorem ok_Store_lowered (T : Txt K mg) : FnOk P w K mg base CX0 4 T.f_Store_lowered T.d_Store_lowered ["self", "layout"] (sp_lowered T.C_Store T.C_Blocks T.C_Rule) := by
  refine T.F_Store_lowered.ok sc_Store_lowered (fun vs H Q E h => ?_) (fun cdv A outer s H vs Q E hr h => ?_)
  · obtain ⟨_, _, _, _, _, _, _, _, _, rfl, _⟩ := h
    rfl
  · obtain ⟨S, G, Z, d, l, ks, X, bs, ss, rfl, hS, hL, fk, few, q⟩ := h
    have hu : (A.deeper (envOfC (Str.ofString "Store._lowered") (defScope s_Store_lowered) s.heap.objs.size T.f_Store_lowered cdv)).units + 1 < cLine := by
      have := hr.units
      omega
    have p0 := pow_pos2 l
    have w2 := pow_two l
    obtain ⟨⟨fn, hD, hn⟩, cov⟩ := id hL
    refine ⟨_, (pss_cons (ps_set (i := 2) sc_Store_lowered.nd rfl (.inl rfl) pe_dnewT)
      (pss_cons (ps_lock (ps_for PassesOwn.never rfl (pi_itemsT (pv 1)) (pg_tupK (K := K) (n := 2) rfl rfl (pgs_cons (pg_tupK (K := K) (n := 2) rfl rfl (pgs_cons (pg_name (i := 3) sc_Store_lowered.nd rfl (.inl rfl)) (pgs_cons (pg_name (i := 4) sc_Store_lowered.nd rfl (.inl rfl)) pgs_nil))) (pgs_cons (pg_name (i := 5) sc_Store_lowered.nd rfl (.inl rfl)) pgs_nil)))
      (pss_one (ps_for PassesOwn.never rfl (pi_enumT (by rfl) T.z_enumerate (pa_cons (pe_meth (pv 0) T.cl_Store T.m_Store_parts (ok_Store_parts T) (hr.mono (by decide)) T.b_Store_parts .nil pass0 (pa_cons (pv 5) pa_nil)) pa_nil)) (pg_tupK (K := K) (n := 2) rfl rfl (pgs_cons (pg_name (i := 6) sc_Store_lowered.nd rfl (.inl rfl)) (pgs_cons (pg_name (i := 7) sc_Store_lowered.nd rfl (.inl rfl)) pgs_nil)))
      (pss_one (ps_if (pt_truth (pe_ix ix_list (pe_fld (pv 0) rfl) (pv 7) (fun _ _ => rfl)) (by intro _; rfl))
      (pss_one (ps_dput hu (pv 2) (pe_tup (pa_cons (pe_op op_add (pe_op op_mul (pv 3) pe_int) (pe_op op_shr (pv 6) pe_int)) (pa_cons (pe_op op_add (pe_op op_mul (pv 4) pe_int) (pe_op op_and (pv 6) pe_int)) pa_nil))) (pv 7) rfl))
      pss_nil))))))
      (pss_one (ps_ret (pv 2))))), ?_⟩
    k_upd
    obtain ⟨kvs, hdh, hm⟩ := id hD
    have dM : d ∉ S.M := fun m => by rw [hide_in m] at hdh; cases hdh
    have hd : H d = some (.dT kvs) := hide_le _ _ hdh
    refine fun dl ndl => ?_
    have ndl0 := ndl
    k_invariant "new" (ndl, H1, e1, g1)
    k_upd
    have nek : dl ≠ d := fun e => by rw [e, hd] at ndl; cases ndl
    refine ⟨d, _, e1 _ _ hd, trivial, fun od => ⟨_, rfl, d, od, kvs, rfl, upd_same, ?_⟩⟩
    obtain ⟨Hb, hHb⟩ : ∃ Hb, Hb = upd H d (.frz od (.dT kvs)) := ⟨_, rfl⟩
    have hSb : GS T.C_Store T.C_Blocks T.C_Rule bs ss Hb S G Z := by rw [hHb]; exact hS.lock hd dM
    have nb : Hb dl = none := by rw [hHb, upd_ne nek]; exact ndl
    have sb : Same Hb (upd H1 d (.frz od (.dT kvs))) := by rw [hHb]; exact updS e1
    have lM : dl ∉ S.M := hSb.off nb
    refine for_it walk_itemsT (fun i σ H' => ∃ G' : List Ent, Gg T.C_Store T.C_Blocks T.C_Rule bs ss S (4 * i) Hb G Z H' G' ∧ (∃ x3 x4 x5 x6 x7 : Option V, σ = [some (.ref S.st), some (.ref d), some (.ref dl), x3, x4, x5, x6, x7]) ∧ H' d = some (.frz od (.dT kvs)) ∧
        ∃ (ls : List Pr) (f : Pr → Nat), Dct H' dl ls (fun p => .int (f p : Nat)) ∧ LowP G' l X f ls ∧ (∀ p ∈ ls, halfP p ∈ ks.take i) ∧ (∀ r c, X r c = true → halfP (r / ((2 ^ l : Nat) : Int), c / ((2 ^ l : Nat) : Int)) ∈ ks.take i → (r / ((2 ^ l : Nat) : Int), c / ((2 ^ l : Nat) : Int)) ∈ ls) ∧ ls.length ≤ 4 * i)
      ⟨G, ((Gg.refl _ hSb).same sb), ⟨_, _, _, _, _, rfl⟩, upd_same, [], fun _ => 0, Dct.new _ (by rw [upd_ne nek]; exact g1), fun _ m => (by cases m), fun p m => (by cases m), fun r c _ m => (by rw [List.take_zero] at m; cases m), Nat.le_refl _⟩ (fun i σ H' _ p => p.choose_spec.2.2.1) ?_ ?_
    · rintro i x σ H2 H3 hi ⟨G', hg, ⟨x3, x4, x5, x6, x7, rfl⟩, hfz, ls, f, hLs, hsq, hmem, hcov, lls⟩ ⟨tt, ky, v, q0, e, rfl, hq0, nt, rfl⟩
      obtain ⟨z, hz, rfl, rfl⟩ := hm.at e
      have zk := List.mem_of_getElem? hz
      have li : i < ks.length := (List.getElem?_eq_some_iff.mp hz).1
      have zn := nodup_next hm.2 hz
      obtain ⟨u, un, ul, us⟩ := hn z zk
      have un := preG hg.pre un
      k_invariant "new" (nt, H3, e3, g3)
      have hg3 := hg.same e3
      obtain ⟨dx, ru, ho⟩ := hg3.st.ob
      have hq3 : H3 q0 = some (.tup [.int z.1, .int z.2]) := e3 _ _ hq0
      have hfz3 := e3 _ _ hfz
      have hLs3 := hLs.up e3
      refine ⟨tt, _, rfl, tup_of g3, rfl, _, _, rfl, ⟨q0, _, rfl, tup_of hq3, rfl, _, _, rfl, _, _, rfl, rfl, _, _, rfl, rfl, ?_⟩⟩
      k_upd
      refine ⟨_, rfl, S.st, _, _, rfl, ho, rfl, _, rfl, S, G', Z + 4 * i, l, fn z, u, bs, ss, rfl, hg3.st, by omega, un, ul, fun H4 G2 p m0 m1 m2 m3 v0 v1 v2 v3 g4 hpd a0 a1 a2 a3 l0 l1 l2 l3 uL => ?_⟩
      have hp := hide_le _ _ hpd
      refine ⟨p, _, rfl, tup_of hp, ?_⟩
      have hg4 := hg3.trans g4
      have pM : p ∉ S.M := fun m => by rw [hide_in m] at hpd; cases hpd
      have hp4 : H4 p = some (.tup [.int (m0 : Int), .int (m1 : Int), .int (m2 : Int), .int (m3 : Int)]) := hp
      have hfz4 := g4.fresh hfz3 dM
      obtain ⟨kl, kl1, kl2⟩ := hLs3
      have hLs4 : Dct H4 dl ls (fun p => .int (f p : Nat)) := ⟨kl, g4.fresh kl1 lM, kl2⟩
      have hsq4 := hsq.up g4.pre
      rw [w2] at us
      obtain ⟨q0', q1', q2', q3'⟩ := part_sub p0 us uL
      have hcell : ∀ j, j < 4 → ∃ (mj : Nat) (v : Ent), [V.int (m0 : Int), .int (m1 : Int), .int (m2 : Int), .int (m3 : Int)][j]? = some (.int (mj : Int)) ∧ G2[mj]? = some v ∧ v.l = l ∧ Sub X ((2 ^ l : Nat) : Int) ((partP z j).1 * ((2 ^ l : Nat) : Int)) ((partP z j).2 * ((2 ^ l : Nat) : Int)) v.L := fun j hj => by
        match j, hj with
        | 0, _ => exact ⟨m0, v0, rfl, a0, l0, q0'⟩
        | 1, _ => exact ⟨m1, v1, rfl, a1, l1, q1'⟩
        | 2, _ => exact ⟨m2, v2, rfl, a2, l2, q2'⟩
        | 3, _ => exact ⟨m3, v3, rfl, a3, l3, q3'⟩
      refine for_it (walk_enumT (a := p) (xs := [.int (m0 : Int), .int (m1 : Int), .int (m2 : Int), .int (m3 : Int)])) (fun j σ H' => Gg T.C_Store T.C_Blocks T.C_Rule bs ss S (4 * i + 4) Hb G Z H' G2 ∧ (∃ x6 x7 : Option V, σ = [some (.ref S.st), some (.ref d), some (.ref dl), some (.int z.1), some (.int z.2), some (.int (fn z : Nat)), x6, x7]) ∧
          H' d = some (.frz od (.dT kvs)) ∧ H' p = some (.tup [.int (m0 : Int), .int (m1 : Int), .int (m2 : Int), .int (m3 : Int)]) ∧
          ∃ (ls : List Pr) (f : Pr → Nat), Dct H' dl ls (fun p => .int (f p : Nat)) ∧ LowP G2 l X f ls ∧ (∀ p ∈ ls, halfP p ∈ ks.take i ∨ (halfP p = z ∧ ixP p < j)) ∧
            (∀ r c, X r c = true → (halfP (r / ((2 ^ l : Nat) : Int), c / ((2 ^ l : Nat) : Int)) ∈ ks.take i ∨ (halfP (r / ((2 ^ l : Nat) : Int), c / ((2 ^ l : Nat) : Int)) = z ∧ ixP (r / ((2 ^ l : Nat) : Int), c / ((2 ^ l : Nat) : Int)) < j)) → (r / ((2 ^ l : Nat) : Int), c / ((2 ^ l : Nat) : Int)) ∈ ls) ∧ ls.length ≤ 4 * i + j)
        ⟨hg4, ⟨_, _, rfl⟩, hfz4, hp4, ls, f, hLs4, hsq4, fun p m => .inl (hmem p m), fun r c x h => hcov r c x (h.elim id fun k => absurd k.2 (Nat.not_lt_zero _)), lls⟩ (fun j σ H' _ g => tup_of g.2.2.2.1) ?_ ?_
      · rintro j x σ H5 H6 hj ⟨gg, ⟨x6, x7, rfl⟩, hfz5, hp5, ls5, f5, hL5, hs5, hm5, hc5, ll5⟩ ⟨t5, a, y, rfl, nt5, rfl, ea, ey⟩
        have ea' : a = .int ((j : Nat) : Int) := (Option.some.inj ea).symm
        subst ea'
        k_invariant "new" (nt5, H6, e6, g6)
        have gg6 := gg.same e6
        have hj : j < 4 := hj
        obtain ⟨mj, v, ey', hmj, vl, vs'⟩ := hcell j hj
        have ey2 : y = .int (mj : Int) := by
          have ey : [V.int (m0 : Int), .int (m1 : Int), .int (m2 : Int), .int (m3 : Int)][j]? = some y := ey
          rw [ey'] at ey
          exact (Option.some.inj ey).symm
        subst ey2
        obtain ⟨dx6, ru6, ho6⟩ := gg6.st.ob
        have vwf := (gg6.st.wf _ _ hmj).cnt
        have hpf := half_part z hj
        have hpi := ix_part z hj
        have hnew : partP z j ∉ ls5 := fun m => by
          rcases hm5 _ m with k | k
          · rw [hpf] at k
            exact zn k
          · rw [hpi] at k
            exact absurd k.2 (Nat.lt_irrefl _)
        have keyeq : ∀ p, halfP p = z → ixP p = j → p = partP z j := fun p h1 h2 => by rw [← part_of p, h1, h2]
        refine ⟨t5, _, rfl, tup_of g6, rfl, _, _, rfl, _, _, rfl, rfl, ?_⟩
        k_upd
        by_cases c0 : v.c = 0
        · refine ⟨_, rfl, S.st, _, _, _, _, rfl, ho6, T.cl_Store, T.na_Store__counts, rfl, _, rfl, _, _, _, _, rfl, rfl, lst_of gg6.st.ct, ctG_at hmj, _, tru0 c0, iteF ?_⟩
          refine ⟨gg6, ⟨_, _, rfl⟩, e6 _ _ hfz5, e6 _ _ hp5, ls5, f5, hL5.up e6, hs5, fun p m => (hm5 p m).imp id fun k => ⟨k.1, Nat.lt_succ_of_lt k.2⟩, fun r c x h => hc5 r c x (h.imp id fun k => ?_), by omega⟩
          by_cases cj : ixP (r / ((2 ^ l : Nat) : Int), c / ((2 ^ l : Nat) : Int)) = j
          · have kp := keyeq _ k.1 cj
            have := sub_at p0 vs' (congrArg Prod.fst kp) (congrArg Prod.snd kp)
            rw [vwf.mp c0, x] at this
            cases this
          · exact ⟨k.1, by have := k.2; omega⟩
        · refine ⟨_, rfl, S.st, _, _, _, _, rfl, ho6, T.cl_Store, T.na_Store__counts, rfl, _, rfl, _, _, _, _, rfl, rfl, lst_of gg6.st.ct, ctG_at hmj, _, tru1 c0, iteT ?_⟩
          refine ⟨_, rfl, _, rfl, _, rfl, _, _, rfl, rfl, (by k_offL), _, rfl, _, _, rfl, rfl, (by show (0 : Int) ≤ 1; decide), _, _, rfl, rfl, _, rfl, _, _, rfl, rfl, (by k_offL), _, rfl, _, _, rfl, rfl, _, _, rfl, rfl, by k_clsL, fun pk npk => ?_⟩
          dsimp only at npk ⊢
          have kk : z.1 * 2 + ((j : Nat) : Int) / 2 ^ (1 : Int).toNat = (partP z j).1 := by
            show z.1 * 2 + ((j : Nat) : Int) / 2 = z.1 * 2 + ((j / 2 : Nat) : Int)
            omega
          have kk2 : z.2 * 2 + Builtin.bitAnd ((j : Nat) : Int) 1 = (partP z j).2 := by
            rw [and1]
            show z.2 * 2 + ((j : Nat) : Int) % 2 = z.2 * 2 + ((j % 2 : Nat) : Int)
            omega
          rw [kk, kk2]
          k_invariant "new" (npk, H7, e7, g7)
          have hL7 := (hL5.up e6).up e7
          obtain ⟨H8, dp, pa⟩ := hL7.dput (x := partP z j) (by rw [sizeLine_eq]; omega) g7 (.int (mj : Int))
          have gd7 := e7 _ _ (e6 _ _ hfz5)
          have hp7 := e7 _ _ (e6 _ _ hp5)
          refine ⟨dl, H8, rfl, dp, ?_⟩
          obtain ⟨o8, e8⟩ := putAt_upd pa
          refine ⟨by rw [e8]; exact (gg6.same e7).loc hSb nb (fun xs w => by obtain ⟨kv, w1, _⟩ := hL7; rw [w1] at w; cases w), ⟨_, _, rfl⟩, ?_, ?_, addK ls5 (partP z j), fun y => if y = partP z j then mj else f5 y, ?_, fun y m => ?_, fun y m => ?_, fun r c x h => ?_, ?_⟩
          · rw [pa.2 _ nek.symm]
            exact gd7
          · rw [pa.2 _ fun z => by
              obtain ⟨kv, w, _⟩ := hL7
              rw [z, w] at hp7
              cases hp7]
            exact hp7
          · refine pa.1.congr fun y _ => ?_
            unfold setG
            dsimp only
            by_cases c : y = partP z j
            · rw [if_pos c, if_pos c]
            · rw [if_neg c, if_neg c]
          · dsimp only
            by_cases c : y = partP z j
            · rw [if_pos c, c]
              exact ⟨v, hmj, vl, vs'⟩
            · rw [if_neg c]
              exact hs5 y ((mem_addK.mp m).resolve_right c)
          · rcases mem_addK.mp m with m | m
            · exact (hm5 y m).imp id fun k => ⟨k.1, Nat.lt_succ_of_lt k.2⟩
            · rw [m, hpf, hpi]
              exact .inr ⟨rfl, Nat.lt_succ_self _⟩
          · rw [mem_addK]
            rcases h with h | h
            · exact .inl (hc5 r c x (.inl h))
            · by_cases cj : ixP (r / ((2 ^ l : Nat) : Int), c / ((2 ^ l : Nat) : Int)) = j
              · exact .inr (keyeq _ h.1 cj)
              · exact .inl (hc5 r c x (.inr ⟨h.1, by have := h.2; omega⟩))
          · have : (addK ls5 (partP z j)).length ≤ ls5.length + 1 := addK_len
            omega
      · rintro σ H5 ⟨gg, ⟨x6, x7, rfl⟩, hfz5, hp5, ls5, f5, hL5, hs5, hm5, hc5, ll5⟩
        refine ⟨G2, gg, ⟨_, _, _, _, _, rfl⟩, hfz5, ls5, f5, hL5, hs5, fun p m => ?_, fun r c x h => hc5 r c x ?_, ll5⟩
        · rw [take_next hz, List.mem_append, List.mem_singleton]
          exact (hm5 p m).imp id fun k => k.1
        · rw [take_next hz, List.mem_append, List.mem_singleton] at h
          exact h.imp id fun k => ⟨k, by show _ < 4; unfold ixP; omega⟩
    · rintro σ H2 ⟨G', hg, ⟨x3, x4, x5, x6, x7, rfl⟩, hfz, ls, f, hLs, hsq, hmem, hcov, lls⟩
      refine ⟨hfz, ?_⟩
      rw [hHb] at hg
      have hgu := hg.unlock hd dM (fun _ z => by cases z) (fun _ z => by cases z) (fun _ _ _ z => by cases z) (fun _ z => by cases z)
      rw [hm.len] at hgu lls
      refine ⟨_, rfl, q _ G' dl ls hgu ndl0 ⟨⟨f, ?_, hsq⟩, fun r c x => hcov r c x ?_⟩ lls⟩
      · obtain ⟨kv, w1, w2⟩ := hLs
        exact ⟨kv, by rw [hide_out lM, upd_ne nek]; exact w1, w2⟩
      · rw [hm.len, List.take_length, half_div p0, ← w2]
        exact cov r c x
end
end My
namespace My
open PySem PySem.Spec PyProof.Rows L2 Vx
open TL
local macro_rules | `(tactic| k_invariant "new" ($n, $H:ident, $e:ident, $h:ident)) => `(tactic| (generalize hE : upd _ _ _ = $H; obtain ⟨$e:ident, $h:ident⟩ := gen_e hE $n; clear hE))
local macro_rules | `(tactic| k_places) => `(tactic| first
  | assumption
  | exact lst_of (by assumption)
  | exact tup_of (by assumption)
  | (refine getS (by assumption) ?_; k_places)
  | (refine Same.seq (by assumption) ?_; k_places)
  | (refine tupS (by assumption) ?_; k_places)
  | (refine lst_of ?_; k_places)
  | (refine tup_of ?_; k_places))
local macro_rules | `(tactic| k_subL) => `(tactic| first
  | k_places
  | solve_by_elim (maxDepth := 10) [getS, lst_of, tup_of, Same.seq, tupS])
local macro_rules | `(tactic| k_offL) => `(tactic| first
  | (show (0 : Int) < _; first | omega | decide)
  | (refine ⟨?_, ?_⟩ <;> first | omega | decide)
  | exact .inr ⟨by decide, by decide⟩
  | exact .inl ⟨by decide, by decide⟩
  | exact .inl ⟨by omega, by omega⟩
  | omega)
local macro_rules | `(tactic| k_clsL) => `(tactic| exact Nat.le_of_ble_eq_true rfl)
local macro_rules | `(tactic| k_upd) => `(tactic| simp only [L2.start, List.map_cons, List.map_nil, List.length_cons, List.length_nil, List.replicate_succ, List.replicate_zero, List.cons_append, List.nil_append, List.set_cons_zero, List.set_cons_succ])
section
variable {P : Program} {w : World} {K : PySem.W.Frag} {mg : Str → Option Value} {base : Heap}
theorem GS.outT {C CB CR : Addr} {bs ss : List Int} {H : Hp} {A : GA} {G : List Ent} {S : Nat} {p : Addr} {xs : List V} (h : GS C CB CR bs ss H A G S) (e : H p = some (.tup xs)) : p ∉ A.M := fun m => by
  have no : ∀ {b : Addr} {u : HO}, H b = some u → (∀ xs, u ≠ .tup xs) → p ≠ b := fun e2 n z => by rw [z, e2] at e; exact n _ (Option.some.inj e)
  obtain ⟨us, h6, _⟩ := h.pt
  obtain ⟨_, h7, _⟩ := h.sm
  obtain ⟨_, h8, _⟩ := h.lg
  obtain ⟨_, h9, _⟩ := h.em
  obtain ⟨_, h10, _⟩ := h.fu
  simp only [GA.M, List.mem_cons, List.not_mem_nil, or_false] at m
  rcases m with z | z | z | z | z | z | z | z
  · exact no h.lv (fun _ z => by cases z) z
  · exact no h.ct (fun _ z => by cases z) z
  · exact no h.bt (fun _ z => by cases z) z
  · exact no h6 (fun _ z => by cases z) z
  · exact no h7 (fun _ z => by cases z) z
  · exact no h8 (fun _ z => by cases z) z
  · exact no h9 (fun _ z => by cases z) z
  · exact no h10 (fun _ z => by cases z) z
theorem Gg.relock {C CB CR : Addr} {bs ss : List Int} {H H2 : Hp} {A : GA} {G G2 : List Ent} {S k : Nat} {d : Addr} {o : HO} {kvs : List (List L2.Key × V)} (hd : H d = some (.dT kvs)) (dM : d ∉ A.M)
    (h : Gg C CB CR bs ss A k H G S H2 G2) : Gg C CB CR bs ss A k (upd H d o) G S (upd H2 d o) G2 := by
  have fM : A.fu ≠ d := fun z => dM (by rw [← z]; simp only [GA.M, List.mem_cons, true_or, or_true])
  refine ⟨fun b v e => ?_, h.st.lock (h.fresh hd dM) dM, h.pre, fun kv e => ?_⟩
  · rw [hide_updO dM] at e ⊢
    by_cases c : b = d
    · rw [c, upd_same] at e ⊢
      exact e
    · rw [upd_ne c] at e ⊢
      exact h.fr b v e
  · rw [upd_ne fM] at e ⊢
    exact h.fk kv e
def ctP (fn : Pr → Nat) (n0 : Nat) (ds : List Pr) (p : Pr) (k : Nat) : Nat := if partP p k ∈ ds then fn (partP p k) else n0
def L4 (fn : Pr → Nat) (n0 : Nat) (ds : List Pr) (p : Pr) : List V := [.int (ctP fn n0 ds p 0 : Nat), .int (ctP fn n0 ds p 1 : Nat), .int (ctP fn n0 ds p 2 : Nat), .int (ctP fn n0 ds p 3 : Nat)]
theorem L4_set {fn : Pr → Nat} {n0 : Nat} {ds : List Pr} {z p : Pr} (h : halfP z = p) : (L4 fn n0 ds p).set (ixP z) (.int (fn z : Nat)) = L4 fn n0 (ds ++ [z]) p := by
  have ez : partP p (ixP z) = z := by rw [← h, part_of]
  have ne : ∀ k, k < 4 → k ≠ ixP z → ctP fn n0 (ds ++ [z]) p k = ctP fn n0 ds p k := fun k hk n => by
    have nz : partP p k ≠ z := fun e => n (by rw [← e, ix_part p hk])
    unfold ctP
    by_cases c : partP p k ∈ ds
    · rw [if_pos c, if_pos (List.mem_append.mpr (.inl c))]
    · rw [if_neg c, if_neg fun m => (List.mem_append.mp m).elim c fun m => nz (List.mem_singleton.mp m)]
  have at' : ctP fn n0 (ds ++ [z]) p (ixP z) = fn z := by
    unfold ctP
    rw [ez, if_pos (List.mem_append.mpr (.inr List.mem_cons_self))]
  have lt : ixP z < 4 := by
    unfold ixP
    omega
  generalize ixP z = i at *
  unfold L4
  match i, lt with
  | 0, _ => rw [at', ne 1 (by decide) (by decide), ne 2 (by decide) (by decide), ne 3 (by decide) (by decide)]; rfl
  | 1, _ => rw [at', ne 0 (by decide) (by decide), ne 2 (by decide) (by decide), ne 3 (by decide) (by decide)]; rfl
  | 2, _ => rw [at', ne 0 (by decide) (by decide), ne 1 (by decide) (by decide), ne 3 (by decide) (by decide)]; rfl
  | 3, _ => rw [at', ne 0 (by decide) (by decide), ne 1 (by decide) (by decide), ne 2 (by decide) (by decide)]; rfl
theorem L4_off {fn : Pr → Nat} {n0 : Nat} {ds : List Pr} {z p : Pr} (h : halfP z ≠ p) : L4 fn n0 (ds ++ [z]) p = L4 fn n0 ds p := by
  have ne : ∀ k, k < 4 → ctP fn n0 (ds ++ [z]) p k = ctP fn n0 ds p k := fun k hk => by
    have nz : partP p k ≠ z := fun e => h (by rw [← e, half_part p hk])
    unfold ctP
    by_cases c : partP p k ∈ ds
    · rw [if_pos c, if_pos (List.mem_append.mpr (.inl c))]
    · rw [if_neg c, if_neg fun m => (List.mem_append.mp m).elim c fun m => nz (List.mem_singleton.mp m)]
  unfold L4
  rw [ne 0 (by decide), ne 1 (by decide), ne 2 (by decide), ne 3 (by decide)]
theorem quad_part {X A B C D : Int → Int → Bool} {p : Int} {z : Pr} (h0 : Sub X p ((partP z 0).1 * p) ((partP z 0).2 * p) A) (h1 : Sub X p ((partP z 1).1 * p) ((partP z 1).2 * p) B) (h2 : Sub X p ((partP z 2).1 * p) ((partP z 2).2 * p) C) (h3 : Sub X p ((partP z 3).1 * p) ((partP z 3).2 * p) D) :
    Sub X (2 * p) (z.1 * (2 * p)) (z.2 * (2 * p)) (quadL p A B C D) := by
  have e0 : ∀ x : Int, (x * 2 + ((0 : Nat) : Int)) * p = x * (2 * p) := fun x => by rw [Int.natCast_zero, Int.add_zero, Int.mul_assoc]
  have e1 : ∀ x : Int, (x * 2 + ((1 : Nat) : Int)) * p = x * (2 * p) + p := fun x => by rw [Int.add_mul, Int.mul_assoc]; show _ + (1 : Int) * p = _; rw [Int.one_mul]
  exact sub_quad (h0.at (e0 _) (e0 _)) (h1.at (e0 _) (e1 _)) (h2.at (e1 _) (e0 _)) (h3.at (e1 _) (e1 _))
def sp_raised (C CB CR : Addr) : Sp := fun vs H Q _ => ∃ (A : GA) (G : List Ent) (S : Nat) (d : Addr) (l : Nat) (ks : List Pr) (X : Int → Int → Bool) (bs ss : List Int), vs = [.ref A.st, .ref d, .int (l : Int)] ∧ 1 ≤ A.mn ∧ GS C CB CR bs ss H A G S ∧ LayG A.M H G d l ks X ∧ l ≤ 14 ∧ ks.length < 1000000 ∧ S + (20 + ks.length) < 7000000 ∧
  ∀ (H' : Hp) (G' : List Ent) (d' : Addr) (ks' : List Pr), Gg C CB CR bs ss A (20 + ks.length) H G S H' G' → H d' = none → LayG A.M H' G' d' (l + 1) ks' X → ks'.length ≤ ks.length → Q (.ref d') H'
theorem ok_Store_raised (T : Txt K mg) : FnOk P w K mg base CX0 5 T.f_Store_raised T.d_Store_raised ["self", "layout", "level"] (sp_raised T.C_Store T.C_Blocks T.C_Rule) := by
  refine T.F_Store_raised.ok sc_Store_raised (fun vs H Q E h => ?_) (fun cdv A outer s H vs Q E hr h => ?_)
  · obtain ⟨_, _, _, _, _, _, _, _, _, rfl, _⟩ := h
    rfl
  · obtain ⟨S, G0, Z0, d, l, ks, X, bs, ss, rfl, mn, hS0, hL0, hl, fk, few, q⟩ := h
    have p0 := pow_pos2 l
    have w2 := pow_two l
    have hu : (A.deeper (envOfC (Str.ofString "Store._raised") (defScope s_Store_raised) s.heap.objs.size T.f_Store_raised cdv)).units + 1 < cLine := by
      have := hr.units
      omega
    refine ⟨_, (pss_cons (ps_set (i := 3) sc_Store_raised.nd rfl (.inr rfl) (pe_meth (pv 0) T.cl_Store T.m_Store_empty (ok_Store_empty T) (hr.mono (by decide)) T.b_Store_empty .nil pass0 (pa_cons (pv 2) pa_nil)))
      (pss_cons (ps_lock (ps_setDcT (i := 4) (own := [("row", 5), ("column", 6)]) (tt := tYes) rfl (Nat.lt_of_succ_lt hu) sc_Store_raised.nd rfl rfl (sw_dict rfl rfl rfl (by decide +kernel)) (pi_keys (pv 1)) (blkOk_by (own := [("row", 5), ("column", 6)]) (N := N_Store_raised) (sc := defScope s_Store_raised) (by decide +kernel)) (fun _ _ _ _ _ => (pg_tupK (K := K) (n := 2) rfl rfl (pgs_cons (pg_name (i := 5) sc_Store_raised.nd rfl (.inl rfl)) (pgs_cons (pg_name (i := 6) sc_Store_raised.nd rfl (.inl rfl)) pgs_nil)))) (fun _ _ _ _ _ => pts_nil) (fun _ _ _ _ _ => (pe_tup (pa_cons (pe_op op_shr (pv 5) pe_int) (pa_cons (pe_op op_shr (pv 6) pe_int) pa_nil)))) (fun _ _ _ _ _ => (pe_lst (pa_cons (pv 3) (pa_cons (pv 3) (pa_cons (pv 3) (pa_cons (pv 3) pa_nil))))))))
      (pss_cons (ps_lock (ps_for PassesOwn.never rfl (pi_itemsT (pv 1)) (pg_tupK (K := K) (n := 2) rfl rfl (pgs_cons (pg_tupK (K := K) (n := 2) rfl rfl (pgs_cons (pg_name (i := 5) sc_Store_raised.nd rfl (.inl rfl)) (pgs_cons (pg_name (i := 6) sc_Store_raised.nd rfl (.inl rfl)) pgs_nil))) (pgs_cons (pg_name (i := 7) sc_Store_raised.nd rfl (.inl rfl)) pgs_nil)))
      (pss_one (ps_asg (pv 7) (pg_sub (pe_dget hu (pv 4) (pe_tup (pa_cons (pe_op op_shr (pv 5) pe_int) (pa_cons (pe_op op_shr (pv 6) pe_int) pa_nil))) (fun _ _ => rfl)) (pe_op op_add (pe_op op_mul (pe_op op_and (pv 5) pe_int) pe_int) (pe_op op_and (pv 6) pe_int)) set_list)))))
      (pss_one (ps_ret (pe_lock (pe_dcT (own := [("place", 8), ("a", 9), ("b", 10), ("c", 11), ("d", 12)]) (tt := tYes) rfl (Nat.lt_of_succ_lt hu) sc_Store_raised.nd (pi_itemsT (pv 4)) (blkOk_by (own := [("place", 8), ("a", 9), ("b", 10), ("c", 11), ("d", 12)]) (N := N_Store_raised) (sc := defScope s_Store_raised) (by decide +kernel)) (fun _ _ _ _ _ => (pg_tupK (K := K) (n := 2) rfl rfl (pgs_cons (pg_name (i := 8) sc_Store_raised.nd rfl (.inl rfl)) (pgs_cons (pg_unlK (K := K) (n := 4) rfl rfl (pgs_cons (pg_name (i := 9) sc_Store_raised.nd rfl (.inl rfl)) (pgs_cons (pg_name (i := 10) sc_Store_raised.nd rfl (.inl rfl)) (pgs_cons (pg_name (i := 11) sc_Store_raised.nd rfl (.inl rfl)) (pgs_cons (pg_name (i := 12) sc_Store_raised.nd rfl (.inl rfl)) pgs_nil))))) pgs_nil)))) (fun _ _ _ _ _ => pts_nil) (fun _ _ _ _ _ => (pv 8)) (fun _ _ _ _ _ => (pe_meth (pv 0) T.cl_Store T.m_Store_joined (ok_Store_joined T) (hr.mono (by decide)) T.b_Store_joined .nil pass0 (pa_cons (pv 9) (pa_cons (pv 10) (pa_cons (pv 11) (pa_cons (pv 12) pa_nil))))))))))))), ?_⟩
    k_upd
    obtain ⟨dx, ru, ho⟩ := hS0.ob
    refine ⟨_, rfl, S.st, _, _, rfl, ho, rfl, _, rfl, S, G0, Z0, l, bs, ss, rfl, mn, hS0, by omega, by omega, fun H1 G n0 u0 gr1 hn0 ul0 uz0 => ?_⟩
    have hS := gr1.st
    have hL := hL0.gr gr1
    obtain ⟨⟨fn, hD, hn⟩, cov⟩ := id hL
    k_upd
    obtain ⟨kvs, hdh, hm⟩ := id hD
    have dM : d ∉ S.M := fun m => by rw [hide_in m] at hdh; cases hdh
    have hd : H1 d = some (.dT kvs) := hide_le _ _ hdh
    refine ⟨d, _, hd, trivial, fun od => ⟨_, rfl, d, od, rfl, .inr ⟨kvs, upd_same, fun D nD => ?_⟩⟩⟩
    obtain ⟨Hb, hHb⟩ : ∃ Hb, Hb = upd H1 d (.frz od (.dT kvs)) := ⟨_, rfl⟩
    rw [← hHb] at nD
    have hSb : GS T.C_Store T.C_Blocks T.C_Rule bs ss Hb S G (Z0 + 20) := by rw [hHb]; exact hS.lock hd dM
    have gb : Hb d = some (.frz od (.dT kvs)) := by rw [hHb, upd_same]
    have DM := hSb.off nD
    have nek : D ≠ d := fun e => by rw [e, gb] at nD; cases nD
    have nD1 : H1 D = none := by rw [hHb, upd_ne nek] at nD; exact nD
    rw [← hHb]
    refine dcT_it walk_keysT (fun i H' => Gg T.C_Store T.C_Blocks T.C_Rule bs ss S 0 Hb G (Z0 + 20) H' G ∧ H' d = some (.frz od (.dT kvs)) ∧ ∃ (hs : List Pr) (at' : Pr → Addr), Dct H' D hs (fun p => .ref (at' p)) ∧ (∀ p ∈ hs, H' (at' p) = some (.lst [.int (n0 : Int), .int (n0 : Int), .int (n0 : Int), .int (n0 : Int)]) ∧ Hb (at' p) = none) ∧
        (∀ p ∈ hs, ∀ p' ∈ hs, at' p = at' p' → p = p') ∧ (∀ p, p ∈ hs ↔ ∃ k ∈ ks.take i, halfP k = p) ∧ hs.length ≤ i)
      ⟨(Gg.refl 0 hSb).same (newS nD), by rw [upd_ne nek.symm]; exact gb, [], fun _ => 0, Dct.new _ upd_same, fun _ m => (by cases m), fun _ m => (by cases m), fun p => ⟨fun m => (by cases m), fun ⟨_, m, _⟩ => by rw [List.take_zero] at m; cases m⟩, Nat.le_refl _⟩ (fun i H' _ p => p.2.1) ?_ ?_
    · rintro i x H2 H3 hi ⟨hg, hfz, hs, at', hDD, hat, inj, hmem, lhs⟩ ⟨rfl, ky, v, q0, e, rfl, hq0⟩
      obtain ⟨z, hz, rfl, rfl⟩ := hm.at e
      have li : i < ks.length := (List.getElem?_eq_some_iff.mp hz).1
      refine ⟨q0, _, rfl, tup_of hq0, rfl, _, _, rfl, _, _, rfl, rfl, wipe2 _ 5 6 _ _, tyesT ⟨_, rfl, _, _, rfl, rfl, (by show (0 : Int) ≤ 1; decide), _, rfl, _, _, rfl, rfl, (by show (0 : Int) ≤ 1; decide), (by k_clsL), fun pk npk => ?_⟩⟩
      k_invariant "new" (npk, H4, e4, g4)
      have g4 : H4 pk = some (.tup [.int (halfP z).1, .int (halfP z).2]) := g4
      refine ⟨_, rfl, _, rfl, _, rfl, _, rfl, (by k_clsL), fun al nal => ?_⟩
      k_invariant "new" (nal, H5, e5, g5)
      have hDD5 := (hDD.up e4).up e5
      obtain ⟨kvd, w1, w2⟩ := id hDD5
      have lkd : kvd.length < sizeLine := by
        rw [w2.len, sizeLine_eq]
        omega
      have e45 := e4.trans e5
      have alb : Hb al = none := by
        cases h : Hb al with
        | none => rfl
        | some o =>
          by_cases c : al = d
          · rw [c] at nal
            rw [e4 _ _ hfz] at nal
            cases nal
          · have alM : al ∉ S.M := (hg.same e4).st.off nal
            have := (hg.same e4).fresh h alM
            rw [this] at nal
            cases nal
      have nalD : al ≠ D := fun e => by
        obtain ⟨kv, y, _⟩ := hDD.up e4
        rw [e, y] at nal
        cases nal
      refine ⟨kvd, keyP (halfP z), pk, rfl, e5 _ _ g4, w1, lkd, ?_⟩
      have w3 := w2.put (halfP z) (.ref al)
      refine ⟨(hg.same e45).loc hSb nD (fun xs w => by rw [w1] at w; cases w), by rw [upd_ne nek.symm]; exact e45 _ _ hfz, addK hs (halfP z), fun y => if y = halfP z then al else at' y, ⟨_, upd_same, w3.congr fun y m => ?_⟩, fun y m => ?_, fun y my y' my' ey => ?_, fun y => ?_, ?_⟩
      · unfold setG
        dsimp only
        by_cases c : y = halfP z
        · rw [if_pos c, if_pos c]
        · rw [if_neg c, if_neg c]
      · dsimp only
        by_cases c : y = halfP z
        · rw [if_pos c]
          exact ⟨by rw [upd_ne nalD]; exact g5, alb⟩
        · rw [if_neg c]
          obtain ⟨y1, y2⟩ := hat y ((mem_addK.mp m).resolve_right c)
          refine ⟨?_, y2⟩
          rw [upd_ne fun e => by rw [e, (hDD.choose_spec).1] at y1; cases y1]
          exact e45 _ _ y1
      · dsimp only at ey
        by_cases c : y = halfP z
        · by_cases c' : y' = halfP z
          · rw [c, c']
          · rw [if_pos c, if_neg c'] at ey
            have y1 := e4 _ _ (hat y' ((mem_addK.mp my').resolve_right c')).1
            rw [← ey, nal] at y1
            cases y1
        · by_cases c' : y' = halfP z
          · rw [if_neg c, if_pos c'] at ey
            have y1 := e4 _ _ (hat y ((mem_addK.mp my).resolve_right c)).1
            rw [ey, nal] at y1
            cases y1
          · rw [if_neg c, if_neg c'] at ey
            exact inj y ((mem_addK.mp my).resolve_right c) y' ((mem_addK.mp my').resolve_right c') ey
      · rw [mem_addK, hmem, take_next hz]
        constructor
        · rintro (⟨k, m, h⟩ | h)
          · exact ⟨k, List.mem_append.mpr (.inl m), h⟩
          · exact ⟨z, List.mem_append.mpr (.inr List.mem_cons_self), h.symm⟩
        · rintro ⟨k, m, h⟩
          rcases List.mem_append.mp m with m | m
          · exact .inl ⟨k, m, h⟩
          · rw [List.mem_singleton.mp m] at h
            exact .inr h.symm
      · have : (addK hs (halfP z)).length ≤ hs.length + 1 := addK_len
        omega
    · rintro H2 ⟨hg, hfz, hs, at', hDD, hat, inj, hmem, lhs⟩
      rw [hm.len] at hmem lhs
      rw [List.take_length] at hmem
      k_upd
      refine ⟨hfz, ?_⟩
      rw [hHb] at hg
      have hgu := hg.unlock hd dM (fun _ z => by cases z) (fun _ z => by cases z) (fun _ _ _ z => by cases z) (fun _ z => by cases z)
      have out : ∀ {a : Addr} {o : HO}, a ≠ d → H2 a = some o → upd H2 d (.dT kvs) a = some o := fun n h => by rw [upd_ne n]; exact h
      have atd : ∀ p ∈ hs, at' p ≠ d := fun p m e => by
        have := (hat p m).2
        rw [e, gb] at this
        cases this
      have at0 : ∀ p ∈ hs, H1 (at' p) = none := fun p m => by
        have := (hat p m).2
        rw [hHb, upd_ne (atd p m)] at this
        exact this
      have atM : ∀ p ∈ hs, at' p ∉ S.M := fun p m => hS.off (at0 p m)
      have hat2 : ∀ p ∈ hs, upd H2 d (.dT kvs) (at' p) = some (.lst (L4 fn n0 [] p)) := fun p m => out (atd p m) (hat p m).1
      obtain ⟨kvD, wD1, wD2⟩ := hDD
      have hD2 : upd H2 d (.dT kvs) D = some (.dT kvD) := out nek wD1
      have atD : ∀ p ∈ hs, at' p ≠ D := fun p m e => by
        have := (hat p m).1
        rw [e, wD1] at this
        cases this
      have hd2 : upd H2 d (.dT kvs) d = some (.dT kvs) := upd_same
      clear hfz hg hat
      generalize upd H2 d (.dT kvs) = H3 at hgu hat2 hD2 hd2 ⊢
      k_upd
      refine ⟨d, _, hd2, trivial, fun od2 => ⟨_, rfl, d, od2, kvs, rfl, upd_same, ?_⟩⟩
      have gr3 := hgu.relock (o := .frz od2 (.dT kvs)) hd dM
      have hD3 : upd H3 d (.frz od2 (.dT kvs)) D = some (.dT kvD) := by rw [upd_ne nek]; exact hD2
      have hat3 : ∀ p ∈ hs, upd H3 d (.frz od2 (.dT kvs)) (at' p) = some (.lst (L4 fn n0 [] p)) := fun p m => by rw [upd_ne (atd p m)]; exact hat2 p m
      have hd3 : upd H3 d (.frz od2 (.dT kvs)) d = some (.frz od2 (.dT kvs)) := upd_same
      have hSc : GS T.C_Store T.C_Blocks T.C_Rule bs ss (upd H1 d (.frz od2 (.dT kvs))) S G (Z0 + 20) := hS.lock hd dM
      have atc : ∀ p ∈ hs, upd H1 d (.frz od2 (.dT kvs)) (at' p) = none := fun p m => by rw [upd_ne (atd p m)]; exact at0 p m
      obtain ⟨Hc, hHc⟩ : ∃ Hc, Hc = upd H1 d (.frz od2 (.dT kvs)) := ⟨_, rfl⟩
      rw [← hHc] at gr3 hSc atc
      generalize upd H3 d (.frz od2 (.dT kvs)) = H4 at gr3 hD3 hat3 hd3 ⊢
      refine for_it walk_itemsT (fun i σ H' => Gg T.C_Store T.C_Blocks T.C_Rule bs ss S 0 Hc G (Z0 + 20) H' G ∧ (∃ x5 x6 x7 : Option V, σ = [some (.ref S.st), some (.ref d), some (.int (l : Int)), some (.int (n0 : Int)), some (.ref D), x5, x6, x7, none, none, none, none, none]) ∧ H' d = some (.frz od2 (.dT kvs)) ∧
          H' D = some (.dT kvD) ∧ ∀ p ∈ hs, H' (at' p) = some (.lst (L4 fn n0 (ks.take i) p)))
        ⟨gr3, ⟨_, _, _, rfl⟩, hd3, hD3, hat3⟩ (fun i σ H' _ p => p.2.2.1) ?_ ?_
      · rintro i x σ H5 H6 hi ⟨hg, ⟨x5, x6, x7, rfl⟩, hfz, hDv, hat⟩ ⟨tt, ky, v, q0, e, rfl, hq0, nt, rfl⟩
        obtain ⟨z, hz, rfl, rfl⟩ := hm.at e
        have zk := List.mem_of_getElem? hz
        have zh : halfP z ∈ hs := (hmem _).mpr ⟨z, zk, rfl⟩
        k_invariant "new" (nt, H6, e6, g6)
        have hq6 : H6 q0 = some (.tup [.int z.1, .int z.2]) := e6 _ _ hq0
        refine ⟨tt, _, rfl, tup_of g6, rfl, _, _, rfl, ⟨q0, _, rfl, tup_of hq6, rfl, _, _, rfl, _, _, rfl, rfl, _, _, rfl, rfl, ?_⟩⟩
        k_upd
        refine ⟨_, rfl, _, rfl, _, rfl, _, _, rfl, rfl, (by show (0 : Int) ≤ 1; decide), _, rfl, _, _, rfl, rfl, (by show (0 : Int) ≤ 1; decide), (by k_clsL), fun pk npk => ?_⟩
        k_invariant "new" (npk, H7, e7, g7)
        have g7 : H7 pk = some (.tup [.int (halfP z).1, .int (halfP z).2]) := g7
        have e67 := e6.trans e7
        have dD : Dct H7 D hs (fun p => .ref (at' p)) := ⟨kvD, e67 _ _ hDv, wD2⟩
        have dg := dD.dget (x := halfP z) g7
        rw [if_pos zh] at dg
        refine ⟨D, _, rfl, dg, ?_⟩
        refine ⟨_, rfl, _, _, rfl, rfl, _, _, rfl, rfl, (by k_offL), _, rfl, _, _, rfl, rfl, _, _, rfl, rfl, ?_⟩
        have eix : Builtin.bitAnd z.1 1 * 2 + Builtin.bitAnd z.2 1 = ((ixP z : Nat) : Int) := by
          rw [and1, and1]
          unfold ixP
          omega
        have lix : ixP z < 4 := by
          unfold ixP
          omega
        have hatz := e67 _ _ (hat _ zh)
        refine ⟨at' (halfP z), _, _, ixP z, rfl, rfl, hatz, ?_, ?_⟩
        · rw [eix]
          unfold ixN
          rw [if_pos (Int.natCast_nonneg _), if_pos (by show ((ixP z : Nat) : Int) < (4 : Nat); omega)]
          rfl
        · have atz := atc _ zh
          have off : ∀ {a : Addr} {o : HO}, H7 a = some o → (∀ xs, o ≠ .lst xs) → ∀ xs, upd H7 (at' (halfP z)) (.lst xs) a = some o := fun {a o} h n xs => by
            rw [upd_ne fun e => by
              rw [e, hatz] at h
              exact n _ (Option.some.inj h).symm]
            exact h
          rw [L4_set rfl, ← take_next hz]
          refine ⟨(hg.same e67).loc hSc atz (fun xs w => by rw [hatz] at w; cases w), ⟨_, _, _, rfl⟩, off (e67 _ _ hfz) (fun _ y => by cases y) _, off (e67 _ _ hDv) (fun _ y => by cases y) _, fun p m => ?_⟩
          by_cases c : p = halfP z
          · rw [c, upd_same]
          · rw [upd_ne fun e => c (inj _ m _ zh e), take_next hz, L4_off fun e => c e.symm]
            exact e67 _ _ (hat p m)
      · rintro σ H5 ⟨hg, ⟨x5, x6, x7, rfl⟩, hfz, hDv, hat⟩
        rw [hm.len, List.take_length] at hat
        refine ⟨hfz, ?_⟩
        rw [hHc] at hg
        have hgu2 := hg.unlock hd dM (fun _ z => by cases z) (fun _ z => by cases z) (fun _ _ _ z => by cases z) (fun _ z => by cases z)
        have hD6 : upd H5 d (.dT kvs) D = some (.dT kvD) := by rw [upd_ne nek]; exact hDv
        have hat6 : ∀ p ∈ hs, upd H5 d (.dT kvs) (at' p) = some (.lst (L4 fn n0 ks p)) := fun p m => by rw [upd_ne (atd p m)]; exact hat p m
        generalize upd H5 d (.dT kvs) = H6 at hgu2 hD6 hat6 ⊢
        k_upd
        refine ⟨D, _, hD6, trivial, fun oD => ⟨_, rfl, D, oD, kvD, rfl, upd_same, fun D2 nD2 => ?_⟩⟩
        have gr7 := hgu2.loc (o := .frz oD (.dT kvD)) hS nD1 (fun xs w => by rw [hD6] at w; cases w)
        have gD7 : upd H6 D (.frz oD (.dT kvD)) D = some (.frz oD (.dT kvD)) := upd_same
        have hat7 : ∀ p ∈ hs, upd H6 D (.frz oD (.dT kvD)) (at' p) = some (.lst (L4 fn n0 ks p)) := fun p m => by rw [upd_ne (atD p m)]; exact hat6 p m
        generalize upd H6 D (.frz oD (.dT kvD)) = H7 at gr7 gD7 hat7 nD2 ⊢
        have D2M := gr7.st.off nD2
        have n2D : D2 ≠ D := fun e => by rw [e, gD7] at nD2; cases nD2
        have nD21 : H1 D2 = none := by
          cases h : H1 D2 with
          | none => rfl
          | some o =>
            have := gr7.fresh h D2M
            rw [this] at nD2
            cases nD2
        have at2 : ∀ p ∈ hs, at' p ≠ D2 := fun p m e => by
          have := hat7 p m
          rw [e, nD2] at this
          cases this
        refine dcT_it walk_itemsT (fun i H' => ∃ (G' : List Ent) (f : Pr → Nat), Gg T.C_Store T.C_Blocks T.C_Rule bs ss S i H1 G (Z0 + 20) H' G' ∧ H' D = some (.frz oD (.dT kvD)) ∧ (∀ p ∈ hs, H' (at' p) = some (.lst (L4 fn n0 ks p))) ∧
            Dct H' D2 (hs.take i) (fun p => .int (f p : Nat)) ∧ LowP G' (l + 1) X f (hs.take i))
          ⟨G, fun _ => 0, gr7.same (newS nD2), by rw [upd_ne n2D.symm]; exact gD7, fun p m => by rw [upd_ne (at2 p m)]; exact hat7 p m, Dct.new _ upd_same, fun _ m => (by rw [List.take_zero] at m; cases m)⟩ (fun i H' _ p => p.choose_spec.choose_spec.2.1) ?_ ?_
        · rintro i x H8 H9 hi ⟨G', f, hg8, hfz8, hat8, hD8, hs8⟩ ⟨tt, ky, v, q0, e, rfl, hq0, nt, rfl⟩
          obtain ⟨z, hz, rfl, rfl⟩ := wD2.at e
          have zh := List.mem_of_getElem? hz
          have li : i < hs.length := (List.getElem?_eq_some_iff.mp hz).1
          k_invariant "new" (nt, H9, e9, g9)
          have hg9 := hg8.same e9
          obtain ⟨dx9, ru9, ho9⟩ := hg9.st.ob
          have hl9 := e9 _ _ (hat8 z zh)
          have num : ∀ k, ∃ v, G'[ctP fn n0 ks z k]? = some v ∧ v.l = l ∧ Sub X ((2 ^ l : Nat) : Int) ((partP z k).1 * ((2 ^ l : Nat) : Int)) ((partP z k).2 * ((2 ^ l : Nat) : Int)) v.L := fun k => by
            unfold ctP
            by_cases c : partP z k ∈ ks
            · rw [if_pos c]
              obtain ⟨v, v1, v2⟩ := hn _ c
              exact ⟨v, preG hg9.pre v1, v2⟩
            · rw [if_neg c]
              refine ⟨u0, preG hg9.pre hn0, ul0, fun r y a b e f => ?_⟩
              rw [uz0]
              cases hx : X (r + (partP z k).1 * ((2 ^ l : Nat) : Int)) (y + (partP z k).2 * ((2 ^ l : Nat) : Int)) with
              | false => rfl
              | true =>
                have := cov _ _ hx
                rw [Int.add_mul_ediv_right _ _ (by omega), Int.add_mul_ediv_right _ _ (by omega), Int.ediv_eq_zero_of_lt a b, Int.ediv_eq_zero_of_lt e f, Int.zero_add, Int.zero_add] at this
                exact absurd this c
          obtain ⟨v0, a0, l0, s0⟩ := num 0
          obtain ⟨v1, a1, l1, s1⟩ := num 1
          obtain ⟨v2, a2, l2, s2⟩ := num 2
          obtain ⟨v3, a3, l3, s3⟩ := num 3
          have qp := quad_part s0 s1 s2 s3
          rw [← w2] at qp
          refine ⟨tt, _, rfl, tup_of g9, rfl, _, _, rfl, _, _, rfl, at' z, _, rfl, lst_of hl9, rfl, _, _, rfl, _, _, rfl, _, _, rfl, _, _, rfl, rfl, rfl, rfl, tyesT ⟨_, rfl, _, rfl, S.st, _, _, rfl, ho9, rfl, _, rfl, _, rfl, _, rfl, _, rfl, ?_⟩⟩
          refine ⟨S, G', Z0 + 20 + i, l, _, _, _, _, v0, v1, v2, v3, bs, ss, rfl, hg9.st, by omega, a0, a1, a2, a3, l0, l1, l2, l3, fun H10 G10 n10 u10 g10 e10 ul10 uL10 _ => ?_⟩
          rw [← uL10] at qp
          have fresh : ∀ {a : Addr} {o : HO}, H9 a = some o → a ∉ S.M → H10 a = some o := fun h m => g10.fresh h m
          obtain ⟨kv2, y1, y2⟩ := hD8.up e9
          have y1' := fresh y1 D2M
          refine ⟨kv2, keyP z, q0, rfl, fresh (e9 _ _ hq0) (hg9.st.outT (e9 _ _ hq0)), y1', by rw [y2.len, List.length_take, sizeLine_eq]; omega, ?_⟩
          have y3 := y2.put z (.int (n10 : Int))
          have zn := nodup_next wD2.2 hz
          rw [addK_new zn, ← take_next hz] at y3
          refine ⟨G10, fun y => if y = z then n10 else f y, (hg9.trans g10).loc hS nD21 (fun xs w => by rw [y1'] at w; cases w), by rw [upd_ne n2D.symm]; exact fresh (e9 _ _ hfz8) DM, fun p m => by rw [upd_ne (at2 p m)]; exact fresh (e9 _ _ (hat8 p m)) (atM p m), ⟨_, upd_same, y3.congr fun y m => ?_⟩, fun y m => ?_⟩
          · unfold setG
            dsimp only
            by_cases c : y = z
            · rw [if_pos c, if_pos c]
            · rw [if_neg c, if_neg c]
          · dsimp only
            by_cases c : y = z
            · rw [if_pos c, c]
              exact ⟨u10, e10, ul10, qp⟩
            · rw [if_neg c]
              rw [take_next hz] at m
              exact hs8.up g10.pre y ((List.mem_append.mp m).resolve_right fun m => c (List.mem_singleton.mp m))
        · rintro H8 ⟨G', f, hg8, hfz8, hat8, hD8, hs8⟩
          rw [wD2.len] at hg8 hD8 hs8
          rw [List.take_length] at hD8 hs8
          k_upd
          refine ⟨hfz8, ?_⟩
          have gr9 := hg8.loc (o := .dT kvD) hS nD1 (fun xs w => by rw [hfz8] at w; cases w)
          refine q _ G' D2 hs ((gr1.trans gr9).more (by omega)) (gr1.back nD21) ⟨⟨f, ?_, hs8⟩, fun r c x => ?_⟩ lhs
          · obtain ⟨kv, y1, y2⟩ := hD8
            exact ⟨kv, by rw [hide_out D2M, upd_ne n2D]; exact y1, y2⟩
          · rw [hmem, w2, ← half_div p0]
            exact ⟨_, cov r c x, rfl⟩
end
end My
namespace My
open PySem PySem.Spec PyProof.Rows L2 Vx
open TL
local macro_rules | `(tactic| k_invariant "new" ($n, $H:ident, $e:ident, $h:ident)) => `(tactic| (generalize hE : upd _ _ _ = $H; obtain ⟨$e:ident, $h:ident⟩ := gen_e hE $n; clear hE))
local macro_rules | `(tactic| k_places) => `(tactic| first
  | assumption
  | exact lst_of (by assumption)
  | exact tup_of (by assumption)
  | (refine getS (by assumption) ?_; k_places)
  | (refine Same.seq (by assumption) ?_; k_places)
  | (refine tupS (by assumption) ?_; k_places)
  | (refine lst_of ?_; k_places)
  | (refine tup_of ?_; k_places))
local macro_rules | `(tactic| k_subL) => `(tactic| first
  | k_places
  | solve_by_elim (maxDepth := 10) [getS, lst_of, tup_of, Same.seq, tupS])
local macro_rules | `(tactic| k_offL) => `(tactic| first
  | (show (0 : Int) < _; first | omega | decide)
  | (refine ⟨?_, ?_⟩ <;> first | omega | decide)
  | exact .inr ⟨by decide, by decide⟩
  | exact .inl ⟨by decide, by decide⟩
  | exact .inl ⟨by omega, by omega⟩
  | omega)
local macro_rules | `(tactic| k_clsL) => `(tactic| exact Nat.le_of_ble_eq_true rfl)
local macro_rules | `(tactic| k_upd) => `(tactic| simp only [L2.start, List.map_cons, List.map_nil, List.length_cons, List.length_nil, List.replicate_succ, List.replicate_zero, List.cons_append, List.nil_append, List.set_cons_zero, List.set_cons_succ])
section
variable {P : Program} {w : World} {K : PySem.W.Frag} {mg : Str → Option Value} {base : Heap}
/-! ### the floor, by blocks -/
def placeP (x : Pr) : Pr := (x.1 / 32, x.2 / 32)
def bitP (x : Pr) : Nat := (x.1 % 32).toNat * 32 + (x.2 % 32).toNat
def backP (p : Pr) (i : Nat) : Pr := (p.1 * 32 + ((i / 32 : Nat) : Int), p.2 * 32 + ((i % 32 : Nat) : Int))
theorem bitP_lt (x : Pr) : bitP x < 1024 := by
  unfold bitP
  omega
theorem back_place {p : Pr} {i : Nat} (h : i < 1024) : placeP (backP p i) = p := by
  refine Prod.ext ?_ ?_
  · show (p.1 * 32 + ((i / 32 : Nat) : Int)) / 32 = p.1
    omega
  · show (p.2 * 32 + ((i % 32 : Nat) : Int)) / 32 = p.2
    omega
theorem back_bit {p : Pr} {i : Nat} (h : i < 1024) : bitP (backP p i) = i := by
  show ((p.1 * 32 + ((i / 32 : Nat) : Int)) % 32).toNat * 32 + ((p.2 * 32 + ((i % 32 : Nat) : Int)) % 32).toNat = i
  omega
theorem back_back (x : Pr) : backP (placeP x) (bitP x) = x := by
  unfold bitP
  have h1 : ((x.1 % 32).toNat * 32 + (x.2 % 32).toNat) / 32 = (x.1 % 32).toNat := by omega
  have h2 : ((x.1 % 32).toNat * 32 + (x.2 % 32).toNat) % 32 = (x.2 % 32).toNat := by omega
  refine Prod.ext ?_ ?_
  · show x.1 / 32 * 32 + ((((x.1 % 32).toNat * 32 + (x.2 % 32).toNat) / 32 : Nat) : Int) = x.1
    rw [h1]
    omega
  · show x.2 / 32 * 32 + ((((x.1 % 32).toNat * 32 + (x.2 % 32).toNat) % 32 : Nat) : Int) = x.2
    rw [h2]
    omega
/-- whether a cell is alive -/
def inB (g : Pr → Nat) (x : Pr) : Bool := (g (placeP x)).testBit (bitP x)
theorem and31 (r : Int) : Builtin.bitAnd r 31 = r % 32 := by
  unfold Builtin.bitAnd
  by_cases h : 0 ≤ r
  · rw [decide_eq_true h]
    show ((r.toNat &&& 31 : Nat) : Int) = r % 32
    rw [Nat.and_two_pow_sub_one_eq_mod r.toNat 5]
    show ((r.toNat % 32 : Nat) : Int) = r % 32
    omega
  · rw [decide_eq_false h]
    show (31 : Int) - ((31 &&& (Builtin.bitNot r).toNat : Nat) : Int) = r % 32
    rw [Nat.and_comm, Nat.and_two_pow_sub_one_eq_mod (Builtin.bitNot r).toNat 5]
    show (31 : Int) - (((Builtin.bitNot r).toNat % 32 : Nat) : Int) = r % 32
    have e : Builtin.bitNot r = -r - 1 := by
      unfold Builtin.bitNot
      omega
    rw [e]
    omega
/-- the cells of a list by their places -/
def bkP (ps : List Pr) (p : Pr) : Nat := ps.foldl (fun acc x => if placeP x = p then acc ||| 1 <<< bitP x else acc) 0
theorem bk_fold (p : Pr) (i : Nat) : ∀ (ps : List Pr) (a : Nat), (ps.foldl (fun acc x => if placeP x = p then acc ||| 1 <<< bitP x else acc) a).testBit i = true ↔ a.testBit i = true ∨ ∃ x ∈ ps, placeP x = p ∧ bitP x = i
  | [], a => ⟨fun h => .inl h, fun h => h.elim id fun ⟨_, m, _⟩ => (by cases m)⟩
  | y :: ps, a => by
    rw [List.foldl_cons, bk_fold p i ps]
    by_cases c : placeP y = p
    · rw [if_pos c, Nat.testBit_or, Bool.or_eq_true, Nat.one_shiftLeft, Nat.testBit_two_pow, decide_eq_true_eq]
      constructor
      · rintro ((h | h) | ⟨x, m, h⟩)
        · exact .inl h
        · exact .inr ⟨y, List.mem_cons_self, c, h⟩
        · exact .inr ⟨x, List.mem_cons_of_mem _ m, h⟩
      · rintro (h | ⟨x, m, h⟩)
        · exact .inl (.inl h)
        · rcases List.mem_cons.mp m with e | m
          · rw [e] at h
            exact .inl (.inr h.2)
          · exact .inr ⟨x, m, h⟩
    · rw [if_neg c]
      constructor
      · rintro (h | ⟨x, m, h⟩)
        · exact .inl h
        · exact .inr ⟨x, List.mem_cons_of_mem _ m, h⟩
      · rintro (h | ⟨x, m, h⟩)
        · exact .inl h
        · rcases List.mem_cons.mp m with e | m
          · rw [e] at h
            exact absurd h.1 c
          · exact .inr ⟨x, m, h⟩
theorem bk_bit {ps : List Pr} {p : Pr} {i : Nat} : (bkP ps p).testBit i = true ↔ ∃ x ∈ ps, placeP x = p ∧ bitP x = i := by
  unfold bkP
  rw [bk_fold]
  exact ⟨fun h => h.elim (fun z => by rw [Nat.zero_testBit] at z; cases z) id, .inr⟩
theorem bk_in {ps : List Pr} {x : Pr} : inB (bkP ps) x = true ↔ x ∈ ps := by
  unfold inB
  rw [bk_bit]
  constructor
  · rintro ⟨y, m, h1, h2⟩
    have := back_back y
    rw [h1, h2, back_back x] at this
    rw [this]
    exact m
  · exact fun m => ⟨x, m, rfl, rfl⟩
theorem lt_bits {n : Nat} (h : ∀ i, n.testBit i = true → i < 1024) : n < 2 ^ 1024 := Nat.lt_pow_two_of_testBit n fun i hi => by
  cases e : n.testBit i with
  | false => rfl
  | true =>
    have := h i e
    omega
theorem bk_lt (ps : List Pr) (p : Pr) : bkP ps p < 2 ^ 1024 := lt_bits fun i t => by
  obtain ⟨x, _, _, e⟩ := bk_bit.mp t
  rw [← e]
  exact bitP_lt x
theorem bk_ne {ps : List Pr} {p : Pr} : bkP ps p ≠ 0 ↔ ∃ x ∈ ps, placeP x = p := by
  constructor
  · intro h
    obtain ⟨i, t⟩ := Nat.exists_testBit_of_ne_zero h
    obtain ⟨x, m, e, _⟩ := bk_bit.mp t
    exact ⟨x, m, e⟩
  · rintro ⟨x, m, e⟩ z
    have := bk_bit.mpr ⟨x, m, e, rfl⟩
    rw [z, Nat.zero_testBit] at this
    cases this
def plK (ps : List Pr) : List Pr := ps.foldl (fun acc x => addK acc (placeP x)) []
theorem addK_mem {ps : List Pr} {x y : Pr} : y ∈ addK ps x ↔ y ∈ ps ∨ y = x := by
  by_cases m : x ∈ ps
  · rw [addK_old m]
    exact ⟨.inl, fun h => h.elim id fun e => e ▸ m⟩
  · rw [addK_new m, List.mem_append, List.mem_singleton]
theorem addK_lenW (ps : List Pr) (x : Pr) : (addK ps x).length ≤ ps.length + 1 := by
  by_cases m : x ∈ ps
  · rw [addK_old m]
    omega
  · rw [addK_new m, List.length_append, List.length_singleton]
    exact Nat.le_refl _
theorem pl_fold (p : Pr) : ∀ (ps acc : List Pr), (p ∈ ps.foldl (fun acc x => addK acc (placeP x)) acc ↔ p ∈ acc ∨ ∃ x ∈ ps, placeP x = p) ∧ (ps.foldl (fun acc x => addK acc (placeP x)) acc).length ≤ acc.length + ps.length
  | [], acc => ⟨⟨.inl, fun h => h.elim id fun ⟨_, m, _⟩ => (by cases m)⟩, Nat.le_refl _⟩
  | y :: ps, acc => by
    rw [List.foldl_cons]
    obtain ⟨a, b⟩ := pl_fold p ps (addK acc (placeP y))
    have := addK_lenW acc (placeP y)
    refine ⟨a.trans ?_, by rw [List.length_cons]; omega⟩
    rw [addK_mem]
    constructor
    · rintro ((h | h) | ⟨x, m, h⟩)
      · exact .inl h
      · exact .inr ⟨y, List.mem_cons_self, h.symm⟩
      · exact .inr ⟨x, List.mem_cons_of_mem _ m, h⟩
    · rintro (h | ⟨x, m, h⟩)
      · exact .inl (.inl h)
      · rcases List.mem_cons.mp m with e | m
        · rw [e] at h
          exact .inl (.inr h.symm)
        · exact .inr ⟨x, m, h⟩
theorem mem_plK {ps : List Pr} {p : Pr} : p ∈ plK ps ↔ ∃ x ∈ ps, placeP x = p := (pl_fold p ps []).1.trans ⟨fun h => h.elim (fun m => by cases m) id, .inr⟩
theorem plK_len (ps : List Pr) : (plK ps).length ≤ ps.length := by
  have := (pl_fold (0, 0) ps []).2
  show (ps.foldl _ []).length ≤ _
  rw [List.length_nil] at this
  omega
/-! ### changing a block -/
def chg (m : Nat) (a b : Nat) : Nat := if m = 0 then a ||| b else if m = 1 then a ^^^ (a &&& b) else a ^^^ b
def chgB (m : Nat) (a b : Bool) : Bool := if m = 0 then a || b else if m = 1 then a && !b else a ^^ b
theorem chg_bit (m a b i : Nat) : (chg m a b).testBit i = chgB m (a.testBit i) (b.testBit i) := by
  unfold chg chgB
  by_cases h0 : m = 0
  · rw [if_pos h0, if_pos h0, Nat.testBit_or]
  · rw [if_neg h0, if_neg h0]
    by_cases h1 : m = 1
    · rw [if_pos h1, if_pos h1, Nat.testBit_xor, Nat.testBit_and]
      cases a.testBit i <;> cases b.testBit i <;> rfl
    · rw [if_neg h1, if_neg h1, Nat.testBit_xor]
theorem chgB_no (m : Nat) (a : Bool) : chgB m a false = a := by
  unfold chgB
  by_cases h0 : m = 0
  · rw [if_pos h0, Bool.or_false]
  · rw [if_neg h0]
    by_cases h1 : m = 1
    · rw [if_pos h1]
      cases a <;> rfl
    · rw [if_neg h1]
      cases a <;> rfl
theorem chgB_off (m : Nat) : chgB m false false = false := chgB_no m false
theorem chg_lt {m a b : Nat} (ha : a < 2 ^ 1024) (hb : b < 2 ^ 1024) : chg m a b < 2 ^ 1024 := lt_bits fun i t => by
  refine Classical.byContradiction fun h => ?_
  have z : ∀ n, n < 2 ^ 1024 → n.testBit i = false := fun n hn => Nat.testBit_lt_two_pow (Nat.lt_of_lt_of_le hn (Nat.pow_le_pow_right (by decide) (by omega)))
  rw [chg_bit, z a ha, z b hb, chgB_off] at t
  cases t
/-! ### the living blocks of a world -/
structure LivIs (H : Hp) (D : Addr) (ks : List Pr) (g : Pr → Nat) : Prop where
  dct : Dct H D ks (fun p => .int (g p : Nat))
  pos : ∀ p, p ∈ ks ↔ g p ≠ 0
  lt : ∀ p, g p < 2 ^ 1024
theorem LivIs.up {H H' : Hp} {D : Addr} {ks : List Pr} {g : Pr → Nat} (h : LivIs H D ks g) (e : Same H H') : LivIs H' D ks g := ⟨h.dct.up e, h.pos, h.lt⟩
theorem LivIs.nd {H : Hp} {D : Addr} {ks : List Pr} {g : Pr → Nat} (h : LivIs H D ks g) : ks.Nodup := by
  obtain ⟨kvs, _, _, nd⟩ := h.dct
  exact nd
theorem LivIs.orG {H : Hp} {D : Addr} {ks : List Pr} {g : Pr → Nat} (h : LivIs H D ks g) (p : Pr) : Vx.orG ks (fun p => V.int (g p : Nat)) (.int 0) p = .int (g p : Nat) := by
  unfold Vx.orG
  by_cases m : p ∈ ks
  · rw [if_pos m]
  · rw [if_neg m]
    have : g p = 0 := Classical.not_not.mp fun z => m ((h.pos p).mpr z)
    rw [this]
    rfl
def cellsAt (p : Pr) (b : Nat) : List Pr := (cellsN b).map fun y => (p.1 * 32 + y.1, p.2 * 32 + y.2)
def cellsW (ks : List Pr) (g : Pr → Nat) : List Pr := (ks.map fun p => cellsAt p (g p)).flatten
theorem cellsAt_mem {p x : Pr} {b : Nat} : x ∈ cellsAt p b ↔ placeP x = p ∧ b.testBit (bitP x) = true := by
  unfold cellsAt
  rw [List.mem_map]
  constructor
  · rintro ⟨y, m, rfl⟩
    obtain ⟨j, mj, rfl⟩ := List.mem_map.mp m
    obtain ⟨lj, tj⟩ := mem_bitsB.mp mj
    show placeP (backP p j) = p ∧ b.testBit (bitP (backP p j)) = true
    rw [back_place lj, back_bit lj]
    exact ⟨rfl, tj⟩
  · rintro ⟨e, t⟩
    refine ⟨at32 (bitP x), mem_cellsN.mpr ⟨bitP_lt x, t⟩, ?_⟩
    show backP p (bitP x) = x
    rw [← e, back_back]
theorem cellsW_mem {ks : List Pr} {g : Pr → Nat} {x : Pr} : x ∈ cellsW ks g ↔ placeP x ∈ ks ∧ inB g x = true := by
  unfold cellsW
  rw [List.mem_flatten]
  constructor
  · rintro ⟨l, ml, mx⟩
    obtain ⟨p, mp, rfl⟩ := List.mem_map.mp ml
    obtain ⟨e, t⟩ := cellsAt_mem.mp mx
    subst e
    exact ⟨mp, t⟩
  · rintro ⟨m, t⟩
    exact ⟨cellsAt (placeP x) (g (placeP x)), List.mem_map.mpr ⟨placeP x, m, rfl⟩, cellsAt_mem.mpr ⟨rfl, t⟩⟩
theorem cellsAt_nd (p : Pr) (b : Nat) : (cellsAt p b).Nodup := by
  refine List.pairwise_map.mpr ((cellsN_asc b).imp fun {x y} h e => ?_)
  have := ltP_iff.mp h
  have e1 : p.1 * 32 + x.1 = p.1 * 32 + y.1 := congrArg Prod.fst e
  have e2 : p.2 * 32 + x.2 = p.2 * 32 + y.2 := congrArg Prod.snd e
  omega
theorem cellsW_nd {g : Pr → Nat} : ∀ {ks : List Pr}, ks.Nodup → (cellsW ks g).Nodup
  | [], _ => List.Pairwise.nil
  | p :: ks, nd => by
    obtain ⟨n1, n2⟩ := List.nodup_cons.mp nd
    show (cellsAt p (g p) ++ cellsW ks g).Nodup
    refine List.pairwise_append.mpr ⟨cellsAt_nd p _, cellsW_nd n2, fun x mx y my e => ?_⟩
    rw [e] at mx
    have := (cellsAt_mem.mp mx).1
    exact n1 (this ▸ (cellsW_mem.mp my).1)
theorem cellsW_len (ks : List Pr) (g : Pr → Nat) : (cellsW ks g).length = (ks.map fun p => popN (g p)).sum := by
  unfold cellsW
  rw [List.length_flatten, List.map_map]
  congr 1
  refine List.map_congr_left fun p _ => ?_
  show (cellsAt p (g p)).length = _
  unfold cellsAt
  rw [List.length_map, cellsN_len]
def sp_place_of : Sp := fun vs H Q _ => ∃ x : Pr, vs = [.int x.1, .int x.2] ∧
  ∀ (H' : Hp) (p q : Addr), Same H H' → H p = none → H' p = some (.tup [.ref q, .int ((1 <<< bitP x : Nat) : Int)]) → H' q = some (.tup [.int (placeP x).1, .int (placeP x).2]) → Q (.ref p) H'
theorem ok_place_of (T : Txt K mg) : FnOk P w K mg base CX0 1 T.f_place_of T.d_place_of ["row", "column"] sp_place_of := by
  refine T.F_place_of.ok sc_place_of (fun vs H Q E h => ?_) (fun cdv A outer s H vs Q E hr h => ?_)
  · obtain ⟨_, rfl, _⟩ := h
    rfl
  · obtain ⟨x, rfl, q⟩ := h
    refine ⟨_, (pss_cons (ps_set (i := 2) sc_place_of.nd rfl (.inl rfl) (pe_op op_add (pe_op op_mul (pe_op op_and (pv 0) (pe_op op_sub (pe_gcx (by rfl) T.c_SIDE) pe_int)) (pe_gcx (by rfl) T.c_SIDE)) (pe_op op_and (pv 1) (pe_op op_sub (pe_gcx (by rfl) T.c_SIDE) pe_int))))
      (pss_one (ps_ret (pe_tup (pa_cons (pe_tup (pa_cons (pe_op op_fdiv (pv 0) (pe_gcx (by rfl) T.c_SIDE)) (pa_cons (pe_op op_fdiv (pv 1) (pe_gcx (by rfl) T.c_SIDE)) pa_nil))) (pa_cons (pe_op op_shlNN pe_int (pv 2)) pa_nil)))))), ?_⟩
    k_upd
    refine ⟨_, rfl, _, _, rfl, rfl, _, _, rfl, rfl, _, _, rfl, rfl, .inr ⟨by decide, by decide⟩, _, rfl, _, _, rfl, rfl, _, _, rfl, rfl, _, _, rfl, rfl, ?_⟩
    rw [show (32 : Int) - 1 = 31 from rfl, and31, and31]
    k_upd
    have lt := bitP_lt x
    have eb : x.1 % 32 * 32 + x.2 % 32 = ((bitP x : Nat) : Int) := by
      unfold bitP
      omega
    rw [eb]
    refine ⟨_, rfl, _, _, rfl, rfl, ⟨by decide, by decide⟩, _, rfl, _, _, rfl, rfl, ⟨by decide, by decide⟩, (by k_clsL), fun p1 n1 => ?_⟩
    k_invariant "new" (n1, H1, e1, g1)
    refine ⟨_, rfl, 1, bitP x, 1, rfl, rfl, by decide, by omega, (by k_clsL), fun p2 n2 => ?_⟩
    k_invariant "new" (n2, H2, e2, g2)
    exact q H2 p2 p1 (e1.trans e2) (backS e1 n2) g2 (e2 _ _ g1)
def sp_blocks_of : Sp := fun vs H Q _ => ∃ (l : Addr) (ps : List Pr), vs = [.ref l] ∧ Cells H l ps ∧ ps.length < 10000 ∧
  ∀ (H' : Hp) (d : Addr), H d = none → Same H H' → Dct H' d (plK ps) (fun p => .int (bkP ps p : Nat)) → Q (.ref d) H'
theorem ok_blocks_of (T : Txt K mg) : FnOk P w K mg base CX0 2 T.f_blocks_of T.d_blocks_of ["cells"] sp_blocks_of := by
  refine T.F_blocks_of.ok sc_blocks_of (fun vs H Q E h => ?_) (fun cdv A outer s H vs Q E hr h => ?_)
  · obtain ⟨_, _, rfl, _⟩ := h
    rfl
  · obtain ⟨l, ps, rfl, hC, few, q⟩ := h
    have hu : (A.deeper (envOfC (Str.ofString "blocks_of") (defScope s_blocks_of) s.heap.objs.size T.f_blocks_of cdv)).units + 1 < cLine := by
      have := hr.units
      omega
    refine ⟨_, (pss_cons (ps_set (i := 1) sc_blocks_of.nd rfl (.inl rfl) pe_dnewT)
      (pss_cons (ps_for PassesOwn.never rfl (pi_list (pv 0)) (pg_tupK (K := K) (n := 2) rfl rfl (pgs_cons (pg_name (i := 2) sc_blocks_of.nd rfl (.inl rfl)) (pgs_cons (pg_name (i := 3) sc_blocks_of.nd rfl (.inl rfl)) pgs_nil)))
      (pss_cons (ps_asg (pe_call (ok_place_of T) (hr.mono (by decide)) (by rfl) T.g_place_of T.F_place_of.kp T.b_place_of .nil pass0 (pa_cons (pv 2) (pa_cons (pv 3) pa_nil))) (pg_tupK (K := K) (n := 2) rfl rfl (pgs_cons (pg_name (i := 4) sc_blocks_of.nd rfl (.inl rfl)) (pgs_cons (pg_name (i := 5) sc_blocks_of.nd rfl (.inl rfl)) pgs_nil))))
      (pss_one (ps_dput hu (pv 1) (pv 4) (pe_op op_orNN (pe_dget2 hu (pv 1) (pv 4) pe_int ⟨rfl, rfl, rfl, rfl⟩) (pv 5)) rfl))))
      (pss_one (ps_ret (pv 1))))), ?_⟩
    k_upd
    obtain ⟨ts, hl, ht, ets⟩ := id hC
    refine fun d nd => ?_
    k_invariant "new" (nd, H1, e1, g1)
    k_upd
    have lts : ts.length = ps.length := by rw [← ets, List.length_map]
    refine ⟨_, rfl, l, rfl, ⟨_, lst_of (e1 _ _ hl)⟩, ?_⟩
    refine for_list (K := K) (a := l) (xs := ts.map fun t => V.ref t.1) (fun i σ H' => Same H H' ∧ (∃ x2 x3 x4 x5 : Option V, σ = [some (.ref l), some (.ref d), x2, x3, x4, x5]) ∧
      Dct H' d (plK (ps.take i)) (fun p => .int (bkP (ps.take i) p : Nat)))
      ⟨e1, ⟨_, _, _, _, rfl⟩, Dct.new _ g1⟩ (fun i σ H' _ p => lst_of (p.1 _ _ hl)) ?_ ?_
    · rintro i x σ H' hi ⟨sm, ⟨x2, x3, x4, x5, rfl⟩, hD⟩
      obtain ⟨t, mt, rfl, hx⟩ := item_cells (H := H') hi rfl
      rw [ets] at hx
      have ht' := sm _ _ (ht t mt)
      refine ⟨t.1, _, rfl, tup_of ht', rfl, _, _, rfl, _, _, rfl, rfl, ?_⟩
      k_upd
      refine ⟨_, rfl, _, rfl, t.2, rfl, fun H2 p1 p2 e2 n2 g2 g3 => ?_⟩
      refine ⟨p1, _, rfl, tup_of g2, rfl, _, _, rfl, _, _, rfl, rfl, ?_⟩
      k_upd
      have hD2 := hD.up e2
      refine ⟨_, rfl, d, rfl, hD2.isD, _, rfl, _, hD2.dget (x := placeP t.2) g3, ?_⟩
      have ge : (if placeP t.2 ∈ plK (ps.take i) then some (V.int (bkP (ps.take i) (placeP t.2) : Nat)) else none : Option V).getD (.int 0) = .int (bkP (ps.take i) (placeP t.2) : Nat) := by
        by_cases z : placeP t.2 ∈ plK (ps.take i)
        · rw [if_pos z]
          rfl
        · rw [if_neg z]
          have : bkP (ps.take i) (placeP t.2) = 0 := Classical.not_not.mp fun y => z (mem_plK.mpr (bk_ne.mp y))
          rw [this]
          rfl
      rw [ge]
      have few2 : (plK (ps.take i)).length < sizeLine := by
        have := plK_len (ps.take i)
        rw [List.length_take] at this
        rw [sizeLine_eq]
        omega
      obtain ⟨H3, dp, pa⟩ := hD2.dput (x := placeP t.2) few2 g3 (.int ((bkP (ps.take i) (placeP t.2) ||| 1 <<< bitP t.2 : Nat) : Int))
      refine ⟨_, rfl, _, _, rfl, rfl, _, rfl, _, rfl, d, H3, rfl, dp, pa.mut (sm.trans e2) nd, ⟨_, _, _, _, rfl⟩, ?_⟩
      have z := pa.1
      have ek : plK (ps.take (i + 1)) = addK (plK (ps.take i)) (placeP t.2) := by
        rw [take_next hx]
        unfold plK
        rw [List.foldl_append]
        rfl
      rw [ek]
      refine z.congr fun y m => ?_
      unfold setG
      have eb : bkP (ps.take (i + 1)) y = if placeP t.2 = y then bkP (ps.take i) y ||| 1 <<< bitP t.2 else bkP (ps.take i) y := by
        rw [take_next hx]
        unfold bkP
        rw [List.foldl_append]
        rfl
      rw [eb]
      by_cases c : y = placeP t.2
      · rw [if_pos c, if_pos c.symm, c]
      · rw [if_neg c, if_neg fun e => c e.symm]
    · rintro σ H' ⟨sm, ⟨x2, x3, x4, x5, rfl⟩, hD⟩
      rw [List.length_map, lts, List.take_length] at hD
      exact ⟨_, rfl, q H' d nd sm hD⟩
end
end My
namespace My
open PySem PySem.Spec PyProof.Rows L2 Vx
open TL
local macro_rules | `(tactic| k_invariant "new" ($n, $H:ident, $e:ident, $h:ident)) => `(tactic| (generalize hE : upd _ _ _ = $H; obtain ⟨$e:ident, $h:ident⟩ := gen_e hE $n; clear hE))
local macro_rules | `(tactic| k_places) => `(tactic| first
  | assumption
  | exact lst_of (by assumption)
  | exact tup_of (by assumption)
  | (refine getS (by assumption) ?_; k_places)
  | (refine Same.seq (by assumption) ?_; k_places)
  | (refine tupS (by assumption) ?_; k_places)
  | (refine lst_of ?_; k_places)
  | (refine tup_of ?_; k_places))
local macro_rules | `(tactic| k_subL) => `(tactic| first
  | k_places
  | solve_by_elim (maxDepth := 10) [getS, lst_of, tup_of, Same.seq, tupS])
local macro_rules | `(tactic| k_offL) => `(tactic| first
  | (show (0 : Int) < _; first | omega | decide)
  | (refine ⟨?_, ?_⟩ <;> first | omega | decide)
  | exact .inr ⟨by decide, by decide⟩
  | exact .inl ⟨by decide, by decide⟩
  | exact .inl ⟨by omega, by omega⟩
  | omega)
local macro_rules | `(tactic| k_clsL) => `(tactic| exact Nat.le_of_ble_eq_true rfl)
local macro_rules | `(tactic| k_upd) => `(tactic| simp only [L2.start, List.map_cons, List.map_nil, List.length_cons, List.length_nil, List.replicate_succ, List.replicate_zero, List.cons_append, List.nil_append, List.set_cons_zero, List.set_cons_succ])
section
variable {P : Program} {w : World} {K : PySem.W.Frag} {mg : Str → Option Value} {base : Heap}
def sp_at_level (C CB CR : Addr) : Sp := fun vs H Q _ => ∃ (A : GA) (G : List Ent) (S : Nat) (d : Addr) (l m : Nat) (ks : List Pr) (X : Int → Int → Bool) (bs ss : List Int), vs = [.ref A.st, .ref d, .int (l : Int), .int (m : Int)] ∧ 1 ≤ A.mn ∧ GS C CB CR bs ss H A G S ∧ LayG A.M H G d l ks X ∧ l ≤ 14 ∧ m ≤ 14 ∧
  4 ^ (l - m + 1) * ks.length + (m - l) * (20 + ks.length) < 1000000 ∧ S < 6000000 ∧
  ∀ (H' : Hp) (G' : List Ent) (d' : Addr) (ks' : List Pr), Gg C CB CR bs ss A (4 ^ (l - m + 1) * ks.length + (m - l) * (20 + ks.length)) H G S H' G' → LayG A.M H' G' d' m ks' X → Q (.ref d') H'
theorem ok_Store_at_level (T : Txt K mg) : FnOk P w K mg base CX0 6 T.f_Store_at_level T.d_Store_at_level ["self", "layout", "level", "wanted"] (sp_at_level T.C_Store T.C_Blocks T.C_Rule) := by
  refine T.F_Store_at_level.ok sc_Store_at_level (fun vs H Q E h => ?_) (fun cdv A outer s H vs Q E hr h => ?_)
  · obtain ⟨_, _, _, _, _, _, _, _, _, _, rfl, _⟩ := h
    rfl
  · obtain ⟨S, G, Z, d, l, m, ks, X, bs, ss, rfl, mn, hS, hL, hl, hm, fk, few, q⟩ := h
    refine ⟨_, (pss_cons (ps_for PassesOwn.never rfl (pi_range2 (by rfl) T.z_range (pa_cons (pv 2) (pa_cons (pv 3) pa_nil))) (pg_name (i := 4) sc_Store_at_level.nd rfl (.inl rfl))
      (pss_one (ps_set (i := 1) sc_Store_at_level.nd rfl (.inl rfl) (pe_meth (pv 0) T.cl_Store T.m_Store_raised (ok_Store_raised T) (hr.mono (by decide)) T.b_Store_raised .nil pass0 (pa_cons (pv 1) (pa_cons (pv 4) pa_nil))))))
      (pss_cons (ps_for PassesOwn.never rfl (pi_range2 (by rfl) T.z_range (pa_cons (pv 3) (pa_cons (pv 2) pa_nil))) (pg_name (i := 5) sc_Store_at_level.nd rfl (.inl rfl))
      (pss_one (ps_set (i := 1) sc_Store_at_level.nd rfl (.inl rfl) (pe_meth (pv 0) T.cl_Store T.m_Store_lowered (ok_Store_lowered T) (hr.mono (by decide)) T.b_Store_lowered .nil pass0 (pa_cons (pv 1) pa_nil)))))
      (pss_one (ps_ret (pv 1))))), ?_⟩
    k_upd
    have k4 : ks.length ≤ 4 ^ (l - m + 1) * ks.length := Nat.le_mul_of_pos_left _ (Nat.pow_pos (by decide))
    refine ⟨_, rfl, _, rfl, l, m, rfl, ⟨by omega, by omega, by omega, by omega⟩, ?_⟩
    rw [show ((m : Int) - (l : Int)).toNat = m - l by omega]
    refine for_range (lo := l) (n := m - l) (fun i σ H' => ∃ (G' : List Ent) (d' : Addr) (ks' : List Pr) (x4 : Option V), σ = [some (.ref S.st), some (.ref d'), some (.int (l : Int)), some (.int (m : Int)), x4, none] ∧ Gg T.C_Store T.C_Blocks T.C_Rule bs ss S (i * (20 + ks.length)) H G Z H' G' ∧ LayG S.M H' G' d' (l + i) ks' X ∧ ks'.length ≤ ks.length)
      ⟨G, d, ks, _, rfl, Gg.refl _ hS, hL, Nat.le_refl _⟩ ?_ ?_
    · rintro i σ H1 hi ⟨G', d', ks', x4, rfl, hg, hL', lk⟩
      obtain ⟨dx, ru, ho⟩ := hg.st.ob
      have b1 : (i + 1) * (20 + ks.length) ≤ (m - l) * (20 + ks.length) := Nat.mul_le_mul_right _ (by omega)
      rw [Nat.add_mul, Nat.one_mul] at b1
      refine ⟨_, rfl, S.st, _, _, rfl, ho, rfl, _, rfl, _, rfl, S, G', Z + i * (20 + ks.length), d', l + i, ks', X, bs, ss, ?_, mn, hg.st, hL', by omega, by omega, by omega, fun H2 G2 d2 ks2 g2 n2 L2 lk2 => ?_⟩
      · skip
        rw [Int.natCast_add]
        rfl
      · refine ⟨G2, d2, ks2, _, rfl, (hg.trans g2).more ?_, L2, by omega⟩
        rw [Nat.add_mul, Nat.one_mul]
        omega
    · rintro σ H1 ⟨G', d', ks', x4, rfl, hg, hL', lk⟩
      refine ⟨_, rfl, _, rfl, m, l, rfl, ⟨by omega, by omega, by omega, by omega⟩, ?_⟩
      rw [show ((l : Int) - (m : Int)).toNat = l - m by omega]
      refine for_range (lo := m) (n := l - m) (fun i σ H2 => ∃ (G2 : List Ent) (d2 : Addr) (ks2 : List Pr) (x5 : Option V), σ = [some (.ref S.st), some (.ref d2), some (.int (l : Int)), some (.int (m : Int)), x4, x5] ∧ Gg T.C_Store T.C_Blocks T.C_Rule bs ss S (4 ^ (i + 1) * ks.length) H1 G' (Z + (m - l) * (20 + ks.length)) H2 G2 ∧ LayG S.M H2 G2 d2 (l + (m - l) - i) ks2 X ∧ ks2.length ≤ 4 ^ i * ks.length)
        ⟨G', d', ks', _, rfl, Gg.refl _ hg.st, hL', by rw [Nat.pow_zero, Nat.one_mul]; exact lk⟩ ?_ ?_
      · rintro i σ H2 hi ⟨G2, d2, ks2, x5, rfl, hg2, hL2, lk2⟩
        obtain ⟨dx, ru, ho⟩ := hg2.st.ob
        have b1 : 4 ^ (i + 1 + 1) * ks.length ≤ 4 ^ (l - m + 1) * ks.length := Nat.mul_le_mul_right _ (Nat.pow_le_pow_right (by decide) (by omega))
        have b2 : 4 ^ (i + 1) * ks.length = 4 * (4 ^ i * ks.length) := by rw [Nat.pow_succ, Nat.mul_comm _ 4, Nat.mul_assoc]
        have b3 : 4 ^ (i + 1 + 1) * ks.length = 4 * (4 ^ (i + 1) * ks.length) := by rw [Nat.pow_succ, Nat.mul_comm _ 4, Nat.mul_assoc]
        rw [show l + (m - l) - i = l + (m - l) - (i + 1) + 1 by omega] at hL2
        refine ⟨_, rfl, S.st, _, _, rfl, ho, rfl, _, rfl, S, G2, Z + (m - l) * (20 + ks.length) + 4 ^ (i + 1) * ks.length, d2, l + (m - l) - (i + 1), ks2, X, bs, ss, rfl, hg2.st, hL2, by omega, by omega, fun H3 G3 d3 ks3 g3 n3 L3 lk3 => ?_⟩
        exact ⟨G3, d3, ks3, _, rfl, (hg2.trans g3).more (by omega), L3, by omega⟩
      · rintro σ H2 ⟨G2, d2, ks2, x5, rfl, hg2, hL2, lk2⟩
        rw [show l + (m - l) - (l - m) = m by omega] at hL2
        exact ⟨_, rfl, q H2 G2 d2 ks2 ((hg.trans hg2).more (by omega)) hL2⟩
end
end My
namespace My
open PySem PySem.Spec PyProof.Rows L2 Vx
open TL
local macro_rules | `(tactic| k_invariant "new" ($n, $H:ident, $e:ident, $h:ident)) => `(tactic| (generalize hE : upd _ _ _ = $H; obtain ⟨$e:ident, $h:ident⟩ := gen_e hE $n; clear hE))
local macro_rules | `(tactic| k_places) => `(tactic| first
  | assumption
  | exact lst_of (by assumption)
  | exact tup_of (by assumption)
  | (refine getS (by assumption) ?_; k_places)
  | (refine Same.seq (by assumption) ?_; k_places)
  | (refine tupS (by assumption) ?_; k_places)
  | (refine lst_of ?_; k_places)
  | (refine tup_of ?_; k_places))
local macro_rules | `(tactic| k_subL) => `(tactic| first
  | k_places
  | solve_by_elim (maxDepth := 10) [getS, lst_of, tup_of, Same.seq, tupS])
local macro_rules | `(tactic| k_offL) => `(tactic| first
  | (show (0 : Int) < _; first | omega | decide)
  | (refine ⟨?_, ?_⟩ <;> first | omega | decide)
  | exact .inr ⟨by decide, by decide⟩
  | exact .inl ⟨by decide, by decide⟩
  | exact .inl ⟨by omega, by omega⟩
  | omega)
local macro_rules | `(tactic| k_clsL) => `(tactic| exact Nat.le_of_ble_eq_true rfl)
local macro_rules | `(tactic| k_upd) => `(tactic| simp only [L2.start, List.map_cons, List.map_nil, List.length_cons, List.length_nil, List.replicate_succ, List.replicate_zero, List.cons_append, List.nil_append, List.set_cons_zero, List.set_cons_succ])
section
variable {P : Program} {w : World} {K : PySem.W.Frag} {mg : Str → Option Value} {base : Heap}
theorem bk_fit (ps : List Pr) (p : Pr) : Fit 5 (bkP ps p) := fun i t => by
  have hi : i < 1024 := Classical.byContradiction fun c => by
    rw [Nat.testBit_lt_two_pow (Nat.lt_of_lt_of_le (bk_lt ps p) (Nat.pow_le_pow_right (by decide) (by omega)))] at t
    cases t
  show i / 32 < 32 ∧ i % 32 < 32
  omega
theorem bk_sub (ps : List Pr) (p : Pr) : Sub (memL ps) ((2 ^ 5 : Nat) : Int) (p.1 * ((2 ^ 5 : Nat) : Int)) (p.2 * ((2 ^ 5 : Nat) : Int)) (blL (bkP ps p)) := fun r c a b d e => by
  have b : r < 32 := b
  have e : c < 32 := e
  show _ = memL ps (r + p.1 * 32) (c + p.2 * 32)
  unfold blL memL
  rw [decide_eq_true ⟨a, b, d, e⟩, Bool.true_and, Bool.eq_iff_iff, decide_eq_true_iff, ← bk_in]
  unfold inB placeP bitP
  dsimp only
  rw [show (r + p.1 * 32) / 32 = p.1 by omega, show (c + p.2 * 32) / 32 = p.2 by omega, show ((r + p.1 * 32) % 32).toNat = r.toNat by omega, show ((c + p.2 * 32) % 32).toNat = c.toNat by omega]
def InBox (w : Nat) (ps : List Pr) : Prop := ∀ x ∈ ps, 0 ≤ x.1 ∧ x.1 < ((2 ^ w : Nat) : Int) ∧ 0 ≤ x.2 ∧ x.2 < ((2 ^ w : Nat) : Int)
def sp_built (C CB CR : Addr) : Sp := fun vs H Q _ => ∃ (A : GA) (G : List Ent) (S w : Nat) (lc : Addr) (ps : List Pr) (bs ss : List Int), vs = [.ref A.st, .ref lc, .int (w : Int)] ∧ 1 ≤ A.mn ∧ GS C CB CR bs ss H A G S ∧ Cells H lc ps ∧ w ≤ 14 ∧ InBox w ps ∧ ps.length ≤ 40 ∧ S < 4000000 ∧
  ∀ (H' : Hp) (G' : List Ent) (n : Nat) (u : Ent), Gg C CB CR bs ss A 200000 H G S H' G' → G'[n]? = some u → u.l = w → u.L = memL ps → Q (.int (n : Int)) H'
theorem ok_Store_built (T : Txt K mg) : FnOk P w K mg base CX0 7 T.f_Store_built T.d_Store_built ["self", "cells", "level"] (sp_built T.C_Store T.C_Blocks T.C_Rule) := by
  refine T.F_Store_built.ok sc_Store_built (fun vs H Q E h => ?_) (fun cdv A outer s H vs Q E hr h => ?_)
  · obtain ⟨_, _, _, _, _, _, _, _, rfl, _⟩ := h
    rfl
  · obtain ⟨S, G, Z, wt, lc, ps, bs, ss, rfl, mn, hS, hC, hw, box, lps, few, q⟩ := h
    have hu : (A.deeper (envOfC (Str.ofString "Store.built") (defScope s_Store_built) s.heap.objs.size T.f_Store_built cdv)).units + 1 < cLine := by
      have := hr.units
      omega
    refine ⟨_, (pss_cons (ps_set (i := 3) sc_Store_built.nd rfl (.inl rfl) (pe_call (ok_blocks_of T) (hr.mono (by decide)) (by rfl) T.g_blocks_of T.F_blocks_of.kp T.b_blocks_of .nil pass0 (pa_cons (pv 1) pa_nil)))
      (pss_cons (ps_lock (ps_setDcT (i := 4) (own := [("place", 5), ("block", 6)]) (tt := tYes) rfl (Nat.lt_of_succ_lt hu) sc_Store_built.nd rfl rfl (sw_dict rfl rfl rfl (by decide +kernel)) (pi_itemsT (pv 3)) (blkOk_by (own := [("place", 5), ("block", 6)]) (N := N_Store_built) (sc := defScope s_Store_built) (by decide +kernel)) (fun _ _ _ _ _ => (pg_tupK (K := K) (n := 2) rfl rfl (pgs_cons (pg_name (i := 5) sc_Store_built.nd rfl (.inl rfl)) (pgs_cons (pg_name (i := 6) sc_Store_built.nd rfl (.inl rfl)) pgs_nil)))) (fun _ _ _ _ _ => pts_nil) (fun _ _ _ _ _ => (pv 5)) (fun _ _ _ _ _ => (pe_meth (pv 0) T.cl_Store T.m_Store_small (ok_Store_small T) (hr.mono (by decide)) T.b_Store_small .nil pass0 (pa_cons (pe_gcx (by rfl) T.c_TOP) (pa_cons (pv 6) pa_nil))))))
      (pss_one (ps_ret (pe_dget2 hu (pe_meth (pv 0) T.cl_Store T.m_Store_at_level (ok_Store_at_level T) (hr.mono (by decide)) T.b_Store_at_level .nil pass0 (pa_cons (pv 4) (pa_cons (pe_gcx (by rfl) T.c_TOP) (pa_cons (pv 2) pa_nil)))) (pe_tup (pa_cons pe_int (pa_cons pe_int pa_nil))) (pe_meth (pv 0) T.cl_Store T.m_Store_empty (ok_Store_empty T) (hr.mono (by decide)) T.b_Store_empty .nil pass0 (pa_cons (pv 2) pa_nil)) ⟨rfl, rfl, rfl, rfl⟩))))), ?_⟩
    k_upd
    have lpl := plK_len ps
    refine ⟨_, rfl, lc, ps, rfl, hC, by omega, fun H1 d nd e1 hD => ?_⟩
    k_upd
    obtain ⟨kvs, hd, hm⟩ := id hD
    have dM := hS.off nd
    have hS1 := hS.up e1
    refine ⟨d, _, hd, trivial, fun od => ⟨_, rfl, d, od, kvs, rfl, upd_same, fun D nD => ?_⟩⟩
    obtain ⟨Hb, hHb⟩ : ∃ Hb, Hb = upd H1 d (.frz od (.dT kvs)) := ⟨_, rfl⟩
    rw [← hHb] at nD
    have hSb : GS T.C_Store T.C_Blocks T.C_Rule bs ss Hb S G Z := by rw [hHb]; exact hS1.lock hd dM
    have gb : Hb d = some (.frz od (.dT kvs)) := by rw [hHb, upd_same]
    have DM := hSb.off nD
    have nek : D ≠ d := fun e => by rw [e, gb] at nD; cases nD
    rw [← hHb]
    refine dcT_it walk_itemsT (fun i H' => ∃ (G' : List Ent) (f : Pr → Nat), Gg T.C_Store T.C_Blocks T.C_Rule bs ss S i Hb G Z H' G' ∧ H' d = some (.frz od (.dT kvs)) ∧ Dct H' D ((plK ps).take i) (fun p => .int (f p : Nat)) ∧ LowP G' 5 (memL ps) f ((plK ps).take i))
      ⟨G, fun _ => 0, (Gg.refl 0 hSb).same (newS nD), by rw [upd_ne nek.symm]; exact gb, Dct.new _ upd_same, fun _ m => (by rw [List.take_zero] at m; cases m)⟩ (fun i H' _ p => p.choose_spec.choose_spec.2.1) ?_ ?_
    · rintro i x H2 H3 hi ⟨G', f, hg, hfz, hDD, hn⟩ ⟨tt, ky, v, q0, e, rfl, hq0, nt, rfl⟩
      obtain ⟨z, hz, rfl, rfl⟩ := hm.at e
      have li : i < (plK ps).length := (List.getElem?_eq_some_iff.mp hz).1
      k_invariant "new" (nt, H3, e3, g3)
      have hg3 := hg.same e3
      obtain ⟨dx, ru, ho⟩ := hg3.st.ob
      refine ⟨tt, _, rfl, tup_of g3, rfl, _, _, rfl, _, _, rfl, rfl, wipe2 _ 5 6 _ _, tyesT ⟨_, rfl, _, rfl, S.st, _, _, rfl, ho, rfl, _, rfl, S, G', Z + i, 5, bkP ps z, bs, ss, rfl, hg3.st, by decide, bk_fit ps z, by omega, fun H4 G4 n4 u4 g4 en4 ul ub uL _ => ?_⟩⟩
      obtain ⟨kvd, w1, w2⟩ := hDD.up e3
      have w1' := g4.fresh w1 DM
      have lkd : kvd.length < sizeLine := by
        rw [w2.len, sizeLine_eq, List.length_take]
        omega
      refine ⟨kvd, keyP z, q0, rfl, g4.fresh (e3 _ _ hq0) (hg3.st.outT (e3 _ _ hq0)), w1', lkd, ?_⟩
      have w3 := w2.put z (.int (n4 : Int))
      have zn := nodup_next hm.2 hz
      rw [addK_new zn, ← take_next hz] at w3
      refine ⟨G4, fun y => if y = z then n4 else f y, (hg3.trans g4).loc hSb nD (fun xs w => by rw [w1'] at w; cases w), by rw [upd_ne nek.symm]; exact g4.fresh (e3 _ _ hfz) dM, ⟨_, upd_same, w3.congr fun y m => ?_⟩, fun y m => ?_⟩
      · unfold setG
        dsimp only
        by_cases c : y = z
        · rw [if_pos c, if_pos c]
        · rw [if_neg c, if_neg c]
      · dsimp only
        by_cases c : y = z
        · rw [if_pos c, c]
          exact ⟨u4, en4, ul, by rw [uL]; exact bk_sub ps z⟩
        · rw [if_neg c]
          rw [take_next hz] at m
          exact hn.up g4.pre y ((List.mem_append.mp m).resolve_right fun m => c (List.mem_singleton.mp m))
    · rintro H2 ⟨G', f, hg, hfz, hDD, hn⟩
      k_upd
      refine ⟨hfz, ?_⟩
      rw [hm.len] at hg hDD hn
      rw [List.take_length] at hDD hn
      rw [hHb] at hg
      have hgu := (hg.unlock hd dM (fun _ z => by cases z) (fun _ z => by cases z) (fun _ _ _ z => by cases z) (fun _ z => by cases z)).of_same e1
      have L3 : LayG S.M (upd H2 d (.dT kvs)) G' D 5 (plK ps) (memL ps) := by
        obtain ⟨kvd, w1, w2⟩ := hDD
        refine ⟨⟨f, ⟨kvd, by rw [hide_out DM, upd_ne nek]; exact w1, w2⟩, hn⟩, fun r c x => ?_⟩
        unfold memL at x
        exact mem_plK.mpr ⟨_, of_decide_eq_true x, rfl⟩
      generalize upd H2 d (.dT kvs) = H3 at hgu L3
      obtain ⟨dx, ru, ho⟩ := hgu.st.ob
      k_upd
      have p4 : 4 ^ (5 - wt + 1) ≤ 4096 := Nat.le_trans (Nat.pow_le_pow_right (by decide) (show 5 - wt + 1 ≤ 6 by omega)) (by decide)
      have b1 : 4 ^ (5 - wt + 1) * (plK ps).length ≤ 4096 * 40 := Nat.mul_le_mul p4 (by omega)
      have b2 : (wt - 5) * (20 + (plK ps).length) ≤ 9 * 60 := Nat.mul_le_mul (by omega) (by omega)
      refine ⟨_, rfl, S.st, _, _, rfl, ho, rfl, _, rfl, _, rfl, S, G', Z + (plK ps).length, D, 5, wt, plK ps, memL ps, bs, ss, rfl, mn, hgu.st, L3, by decide, hw, by omega, by omega, fun H4 G4 d4 ks4 g4 L4 => ?_⟩
      obtain ⟨⟨f4, hD4, hn4⟩, cov4⟩ := L4
      have hD4' := hD4.up hide_le
      refine ⟨d4, rfl, hD4'.isD, by k_clsL, fun pk npk => ?_⟩
      have g04 := hgu.trans g4
      have pkM := g4.st.off npk
      k_invariant "new" (npk, H5, e5, g5)
      have g05 := g04.same e5
      obtain ⟨dx5, ru5, ho5⟩ := g05.st.ob
      refine ⟨_, rfl, S.st, _, _, rfl, ho5, rfl, _, rfl, S, G4, _, wt, bs, ss, rfl, mn, g05.st, by omega, by omega, fun H6 G6 n6 u6 g6 en6 ul6 uz6 => ?_⟩
      have hD6 := (hD4.up ((hide_up e5).trans g6.fr)).up hide_le
      have g6' : H6 pk = some (.tup [.int 0, .int 0]) := g6.fresh g5 pkM
      refine ⟨_, hD6.dget (x := (0, 0)) g6', ?_⟩
      have gr6 := (g05.trans g6).more (k' := 200000) (by omega)
      have p0 := pow_pos2 wt
      have inb : ∀ r c, memL ps r c = true → 0 ≤ r ∧ r < ((2 ^ wt : Nat) : Int) ∧ 0 ≤ c ∧ c < ((2 ^ wt : Nat) : Int) := fun r c x => by
        unfold memL at x
        exact box _ (of_decide_eq_true x)
      by_cases z : ((0 : Int), (0 : Int)) ∈ ks4
      · rw [if_pos z]
        obtain ⟨u, u1, u2, u3⟩ := hn4 _ z
        have u1' := preG g6.pre u1
        refine q H6 G6 (f4 (0, 0)) u gr6 u1' u2 (funext fun r => funext fun c => ?_)
        have sp := (gr6.st.wf _ _ u1').supp
        rw [u2] at sp
        by_cases c1 : 0 ≤ r ∧ r < ((2 ^ wt : Nat) : Int) ∧ 0 ≤ c ∧ c < ((2 ^ wt : Nat) : Int)
        · have := u3 r c c1.1 c1.2.1 c1.2.2.1 c1.2.2.2
          rw [this]
          dsimp only
          rw [Int.zero_mul, Int.add_zero, Int.add_zero]
        · have h1 : u.L r c = false := by
            cases e : u.L r c with
            | false => rfl
            | true => exact absurd (sp r c e) c1
          have h2 : memL ps r c = false := by
            cases e : memL ps r c with
            | false => rfl
            | true => exact absurd (inb r c e) c1
          rw [h1, h2]
      · rw [if_neg z]
        refine q H6 G6 n6 u6 gr6 en6 ul6 (funext fun r => funext fun c => ?_)
        rw [uz6]
        cases e : memL ps r c with
        | false => rfl
        | true =>
          have i := inb r c e
          have := cov4 r c e
          rw [Int.ediv_eq_zero_of_lt i.1 i.2.1, Int.ediv_eq_zero_of_lt i.2.2.1 i.2.2.2] at this
          exact absurd this z
def sp_level (C CB CR : Addr) : Sp := fun vs H Q _ => ∃ (A : GA) (G : List Ent) (S n : Nat) (u : Ent) (bs ss : List Int), vs = [.ref A.st, .int (n : Int)] ∧ GS C CB CR bs ss H A G S ∧ G[n]? = some u ∧ Q (.int (u.l : Nat)) H
theorem ok_Store_level (T : Txt K mg) : FnOk P w K mg base CX0 1 T.f_Store_level T.d_Store_level ["self", "square"] (sp_level T.C_Store T.C_Blocks T.C_Rule) := by
  refine T.F_Store_level.ok sc_Store_level (fun vs H Q E h => ?_) (fun cdv A outer s H vs Q E hr h => ?_)
  · obtain ⟨_, _, _, _, _, _, _, rfl, _⟩ := h
    rfl
  · obtain ⟨S, G, Z, n, u, bs, ss, rfl, hS, hn, q⟩ := h
    obtain ⟨dx, ru, ho⟩ := hS.ob
    refine ⟨_, (pss_one (ps_ret (pe_ix ix_list (pe_fld (pv 0) rfl) (pv 1) (fun _ _ => rfl)))), ?_⟩
    k_upd
    exact ⟨_, rfl, S.st, _, _, _, _, rfl, ho, T.cl_Store, T.na_Store__levels, rfl, _, rfl, _, _, _, _, rfl, rfl, lst_of hS.lv, lvG_at hn, q⟩
end
end My
namespace My
open PySem PySem.Spec PyProof.Rows L2 Vx
open TL
local macro_rules | `(tactic| k_invariant "new" ($n, $H:ident, $e:ident, $h:ident)) => `(tactic| (generalize hE : upd _ _ _ = $H; obtain ⟨$e:ident, $h:ident⟩ := gen_e hE $n; clear hE))
local macro_rules | `(tactic| k_places) => `(tactic| first
  | assumption
  | exact lst_of (by assumption)
  | exact tup_of (by assumption)
  | (refine getS (by assumption) ?_; k_places)
  | (refine Same.seq (by assumption) ?_; k_places)
  | (refine tupS (by assumption) ?_; k_places)
  | (refine lst_of ?_; k_places)
  | (refine tup_of ?_; k_places))
local macro_rules | `(tactic| k_subL) => `(tactic| first
  | k_places
  | solve_by_elim (maxDepth := 10) [getS, lst_of, tup_of, Same.seq, tupS])
local macro_rules | `(tactic| k_offL) => `(tactic| first
  | (show (0 : Int) < _; first | omega | decide)
  | (refine ⟨?_, ?_⟩ <;> first | omega | decide)
  | exact .inr ⟨by decide, by decide⟩
  | exact .inl ⟨by decide, by decide⟩
  | exact .inl ⟨by omega, by omega⟩
  | omega)
local macro_rules | `(tactic| k_clsL) => `(tactic| exact Nat.le_of_ble_eq_true rfl)
local macro_rules | `(tactic| k_upd) => `(tactic| simp only [L2.start, List.map_cons, List.map_nil, List.length_cons, List.length_nil, List.replicate_succ, List.replicate_zero, List.cons_append, List.nil_append, List.set_cons_zero, List.set_cons_succ])
section
variable {P : Program} {w : World} {K : PySem.W.Frag} {mg : Str → Option Value} {base : Heap}
/-! ### the cells of a square -/
structure SE where
  t : Addr
  n : Nat
  r : Int
  c : Int
  u : Ent
def SOk (G : List Ent) (H : Hp) (e : SE) : Prop := H e.t = some (.tup [.int (e.n : Int), .int e.r, .int e.c]) ∧ G[e.n]? = some e.u
def inX (e : SE) (x : Pr) : Prop := e.r ≤ x.1 ∧ x.1 < e.r + ((2 ^ e.u.l : Nat) : Int) ∧ e.c ≤ x.2 ∧ x.2 < e.c + ((2 ^ e.u.l : Nat) : Int)
def LiveE (e : SE) (x : Pr) : Prop := e.u.L (x.1 - e.r) (x.2 - e.c) = true
def Dj (e e' : SE) : Prop := ∀ x, inX e x → inX e' x → False
def refE (stk : List SE) : List V := stk.map fun e => V.ref e.t
def wtE (stk : List SE) : Nat := (stk.map fun e => 5 ^ e.u.l).sum
def wtV (G : List Ent) (H : Hp) (v : V) : Nat := match v with
  | .ref t => (match H t with
    | some (.tup (.int n :: _)) => 5 ^ ((G[n.toNat]?.map (·.l)).getD 0)
    | _ => 0)
  | _ => 0
def wtS (G : List Ent) (H : Hp) (o : Option HO) : Nat := match o with
  | some (.lst xs) => (xs.map (wtV G H)).sum
  | _ => 0
theorem wt_stk {G : List Ent} {H : Hp} {wl : Addr} {stk : List SE} (h : H wl = some (.lst (refE stk))) (ok : ∀ e ∈ stk, SOk G H e) : wtS G H (H wl) = wtE stk := by
  rw [h]
  unfold wtS wtE refE
  dsimp only
  rw [List.map_map]
  refine congrArg List.sum (List.map_congr_left fun e m => ?_)
  obtain ⟨h1, h2⟩ := ok e m
  show wtV G H (.ref e.t) = _
  unfold wtV
  dsimp only
  rw [h1]
  dsimp only
  rw [Int.toNat_natCast, h2]
  rfl
theorem len_wt : ∀ stk : List SE, stk.length ≤ wtE stk
  | [] => Nat.le_refl _
  | e :: stk => by
    have := len_wt stk
    have p : 1 ≤ 5 ^ e.u.l := Nat.pow_pos (by decide)
    show stk.length + 1 ≤ 5 ^ e.u.l + wtE stk
    omega
theorem wt_app (a b : List SE) : wtE (a ++ b) = wtE a + wtE b := by
  unfold wtE
  rw [List.map_append, List.sum_append]
/-- how far the cells are told -/
structure CInv (G : List Ent) (L : Int → Int → Bool) (l0 : Nat) (fs : List Pr) (stk : List SE) : Prop where
  nd : fs.Nodup
  dj : stk.Pairwise Dj
  off : ∀ x ∈ fs, ∀ e ∈ stk, ¬ inX e x
  all : ∀ x : Pr, L x.1 x.2 = true ↔ x ∈ fs ∨ ∃ e ∈ stk, LiveE e x
  wt : wtE stk ≤ 5 ^ l0
  sp : ∀ e ∈ stk, Supp e.u.l e.u.L
theorem live_in {e : SE} {x : Pr} (h : Supp e.u.l e.u.L) (l : LiveE e x) : inX e x := by
  have := h _ _ l
  unfold inX
  omega
theorem CInv.skip {G : List Ent} {L : Int → Int → Bool} {l0 : Nat} {fs : List Pr} {stk : List SE} {e : SE} (h : CInv G L l0 fs (stk ++ [e])) (z : ∀ r c, e.u.L r c = false) : CInv G L l0 fs stk := by
  refine ⟨h.nd, (List.pairwise_append.mp h.dj).1, fun x m e' m' => h.off x m e' (List.mem_append.mpr (.inl m')), fun x => (h.all x).trans ⟨fun k => k.imp id ?_, fun k => k.imp id ?_⟩, ?_, fun e' m' => h.sp e' (List.mem_append.mpr (.inl m'))⟩
  · rintro ⟨e', m, l⟩
    rcases List.mem_append.mp m with m | m
    · exact ⟨e', m, l⟩
    · rw [List.mem_singleton.mp m] at l
      unfold LiveE at l
      rw [z] at l
      cases l
  · rintro ⟨e', m, l⟩
    exact ⟨e', List.mem_append.mpr (.inl m), l⟩
  · have := h.wt
    rw [wt_app] at this
    omega
theorem CInv.take {G : List Ent} {L : Int → Int → Bool} {l0 : Nat} {fs gs : List Pr} {stk : List SE} {e : SE} (h : CInv G L l0 fs (stk ++ [e])) (gn : gs.Nodup) (gm : ∀ x, x ∈ gs ↔ LiveE e x) : CInv G L l0 (fs ++ gs) stk := by
  have me : e ∈ stk ++ [e] := List.mem_append.mpr (.inr List.mem_cons_self)
  have gi : ∀ x ∈ gs, inX e x := fun x m => live_in (h.sp e me) ((gm x).mp m)
  refine ⟨List.nodup_append.mpr ⟨h.nd, gn, fun x m y m' e' => h.off x m e me (e' ▸ gi y m')⟩, (List.pairwise_append.mp h.dj).1, fun x m e' m' => ?_, fun x => (h.all x).trans ?_, ?_, fun e' m' => h.sp e' (List.mem_append.mpr (.inl m'))⟩
  · rcases List.mem_append.mp m with m | m
    · exact h.off x m e' (List.mem_append.mpr (.inl m'))
    · exact fun k => (List.pairwise_append.mp h.dj).2.2 e' m' e List.mem_cons_self x k (gi x m)
  · rw [List.mem_append, gm]
    constructor
    · rintro (k | ⟨e', m, l⟩)
      · exact .inl (.inl k)
      · rcases List.mem_append.mp m with m | m
        · exact .inr ⟨e', m, l⟩
        · rw [List.mem_singleton.mp m] at l
          exact .inl (.inr l)
    · rintro ((k | k) | ⟨e', m, l⟩)
      · exact .inl k
      · exact .inr ⟨e, me, k⟩
      · exact .inr ⟨e', List.mem_append.mpr (.inl m), l⟩
  · have := h.wt
    rw [wt_app] at this
    omega
theorem CInv.split {G : List Ent} {L : Int → Int → Bool} {l0 l : Nat} {fs : List Pr} {stk : List SE} {e a b c d : SE} (h : CInv G L l0 fs (stk ++ [e])) (el : e.u.l = l + 1) (al : a.u.l = l) (bl : b.u.l = l) (cl : c.u.l = l) (dl : d.u.l = l)
    (sa : Supp l a.u.L) (sb : Supp l b.u.L) (sc : Supp l c.u.L) (sd : Supp l d.u.L) (eL : e.u.L = quadL ((2 ^ l : Nat) : Int) a.u.L b.u.L c.u.L d.u.L) (ar : a.r = e.r ∧ a.c = e.c) (br : b.r = e.r ∧ b.c = e.c + ((2 ^ l : Nat) : Int)) (cr : c.r = e.r + ((2 ^ l : Nat) : Int) ∧ c.c = e.c) (dr : d.r = e.r + ((2 ^ l : Nat) : Int) ∧ d.c = e.c + ((2 ^ l : Nat) : Int)) :
    CInv G L l0 fs (stk ++ [a, b] ++ [c, d]) ∧ wtE (stk ++ [a, b] ++ [c, d]) < wtE (stk ++ [e]) := by
  have me : e ∈ stk ++ [e] := List.mem_append.mpr (.inr List.mem_cons_self)
  have w2 := pow_two l
  have p0 := pow_pos2 l
  have five : 1 ≤ 5 ^ l := Nat.pow_pos (by decide)
  have ws : wtE (stk ++ [a, b] ++ [c, d]) < wtE (stk ++ [e]) := by
    rw [wt_app, wt_app, wt_app]
    unfold wtE
    simp only [List.map_cons, List.map_nil, List.sum_cons, List.sum_nil, al, bl, cl, dl, el, Nat.pow_succ]
    omega
  have ins : ∀ f, (f = a ∨ f = b ∨ f = c ∨ f = d) → ∀ x, inX f x → inX e x := fun f m x k => by
    unfold inX at k ⊢
    rw [el, w2]
    rcases m with rfl | rfl | rfl | rfl
    · rw [al] at k
      omega
    · rw [bl] at k
      omega
    · rw [cl] at k
      omega
    · rw [dl] at k
      omega
  have m4 : ∀ f, f ∈ stk ++ [a, b] ++ [c, d] → f ∈ stk ∨ (f = a ∨ f = b ∨ f = c ∨ f = d) := fun f m => by
    simp only [List.mem_append, List.mem_cons, List.not_mem_nil, or_false] at m
    rcases m with (m | m | m) | m | m
    · exact .inl m
    · exact .inr (.inl m)
    · exact .inr (.inr (.inl m))
    · exact .inr (.inr (.inr (.inl m)))
    · exact .inr (.inr (.inr (.inr m)))
  have dis : Dj a b ∧ Dj a c ∧ Dj a d ∧ Dj b c ∧ Dj b d ∧ Dj c d := by
    unfold Dj inX
    rw [al, bl, cl, dl]
    refine ⟨?_, ?_, ?_, ?_, ?_, ?_⟩ <;> (intro x; omega)
  obtain ⟨d1, d2, d3, d4, d5, d6⟩ := dis
  have pe := List.pairwise_append.mp h.dj
  have out : ∀ e' ∈ stk, ∀ f, (f = a ∨ f = b ∨ f = c ∨ f = d) → Dj e' f := fun e' m f mf x k k' => pe.2.2 e' m e List.mem_cons_self x k (ins f mf x k')
  have spf : ∀ f, (f = a ∨ f = b ∨ f = c ∨ f = d) → Supp f.u.l f.u.L := fun f m => by
    rcases m with rfl | rfl | rfl | rfl
    · rw [al]; exact sa
    · rw [bl]; exact sb
    · rw [cl]; exact sc
    · rw [dl]; exact sd
  refine ⟨⟨h.nd, ?_, fun x m e' m' => ?_, fun x => (h.all x).trans ?_, Nat.le_trans (Nat.le_of_lt ws) h.wt, fun e' m' => ?_⟩, ws⟩
  · refine List.pairwise_append.mpr ⟨List.pairwise_append.mpr ⟨pe.1, ?_, fun x m y m' => ?_⟩, ?_, fun x m y m' => ?_⟩
    · exact List.pairwise_cons.mpr ⟨fun y m => by rw [List.mem_singleton.mp m]; exact d1, List.pairwise_singleton _ _⟩
    · simp only [List.mem_cons, List.not_mem_nil, or_false] at m'
      exact out x m y (m'.elim .inl fun k => .inr (.inl k))
    · exact List.pairwise_cons.mpr ⟨fun y m => by rw [List.mem_singleton.mp m]; exact d6, List.pairwise_singleton _ _⟩
    · simp only [List.mem_cons, List.not_mem_nil, or_false] at m'
      rcases List.mem_append.mp m with m | m
      · exact out x m y (m'.elim (fun k => .inr (.inr (.inl k))) fun k => .inr (.inr (.inr k)))
      · simp only [List.mem_cons, List.not_mem_nil, or_false] at m
        rcases m with rfl | rfl <;> rcases m' with rfl | rfl <;> assumption
  · rcases m4 e' m' with k | k
    · exact h.off x m e' (List.mem_append.mpr (.inl k))
    · exact fun i => h.off x m e me (ins e' k x i)
  · have q : LiveE e x ↔ LiveE a x ∨ LiveE b x ∨ LiveE c x ∨ LiveE d x := by
      unfold LiveE
      rw [eL, ar.1, ar.2, br.1, br.2, cr.1, cr.2, dr.1, dr.2]
      rw [show x.2 - (e.c + ((2 ^ l : Nat) : Int)) = x.2 - e.c - ((2 ^ l : Nat) : Int) by omega, show x.1 - (e.r + ((2 ^ l : Nat) : Int)) = x.1 - e.r - ((2 ^ l : Nat) : Int) by omega]
      generalize x.1 - e.r = X
      generalize x.2 - e.c = Y
      have na := sa X Y
      have nb' := sb X (Y - ((2 ^ l : Nat) : Int))
      have nc := sc (X - ((2 ^ l : Nat) : Int)) Y
      have nd := sd (X - ((2 ^ l : Nat) : Int)) (Y - ((2 ^ l : Nat) : Int))
      unfold quadL
      split
      · split
        · exact ⟨.inl, fun k => k.elim id fun k => k.elim (fun k => absurd (nb' k) (by omega)) fun k => k.elim (fun k => absurd (nc k) (by omega)) fun k => absurd (nd k) (by omega)⟩
        · exact ⟨fun k => .inr (.inl k), fun k => k.elim (fun k => absurd (na k) (by omega)) fun k => k.elim id fun k => k.elim (fun k => absurd (nc k) (by omega)) fun k => absurd (nd k) (by omega)⟩
      · split
        · exact ⟨fun k => .inr (.inr (.inl k)), fun k => k.elim (fun k => absurd (na k) (by omega)) fun k => k.elim (fun k => absurd (nb' k) (by omega)) fun k => k.elim id fun k => absurd (nd k) (by omega)⟩
        · exact ⟨fun k => .inr (.inr (.inr k)), fun k => k.elim (fun k => absurd (na k) (by omega)) fun k => k.elim (fun k => absurd (nb' k) (by omega)) fun k => k.elim (fun k => absurd (nc k) (by omega)) id⟩
    constructor
    · rintro (k | ⟨e', m, k⟩)
      · exact .inl k
      · rcases List.mem_append.mp m with m | m
        · exact .inr ⟨e', by simp only [List.mem_append]; exact .inl (.inl m), k⟩
        · rw [List.mem_singleton.mp m] at k
          rcases q.mp k with k | k | k | k
          · exact .inr ⟨a, by simp, k⟩
          · exact .inr ⟨b, by simp, k⟩
          · exact .inr ⟨c, by simp, k⟩
          · exact .inr ⟨d, by simp, k⟩
    · rintro (k | ⟨e', m, k⟩)
      · exact .inl k
      · rcases m4 e' m with m | m
        · exact .inr ⟨e', List.mem_append.mpr (.inl m), k⟩
        · refine .inr ⟨e, me, q.mpr ?_⟩
          rcases m with rfl | rfl | rfl | rfl
          · exact .inl k
          · exact .inr (.inl k)
          · exact .inr (.inr (.inl k))
          · exact .inr (.inr (.inr k))
  · rcases m4 e' m' with k | k
    · exact h.sp e' (List.mem_append.mpr (.inl k))
    · exact spf e' k
end
end My
namespace My
open PySem PySem.Spec PyProof.Rows L2 Vx
open TL
local macro_rules | `(tactic| k_invariant "new" ($n, $H:ident, $e:ident, $h:ident)) => `(tactic| (generalize hE : upd _ _ _ = $H; obtain ⟨$e:ident, $h:ident⟩ := gen_e hE $n; clear hE))
local macro_rules | `(tactic| k_places) => `(tactic| first
  | assumption
  | exact lst_of (by assumption)
  | exact tup_of (by assumption)
  | (refine getS (by assumption) ?_; k_places)
  | (refine Same.seq (by assumption) ?_; k_places)
  | (refine tupS (by assumption) ?_; k_places)
  | (refine lst_of ?_; k_places)
  | (refine tup_of ?_; k_places))
local macro_rules | `(tactic| k_subL) => `(tactic| first
  | k_places
  | solve_by_elim (maxDepth := 10) [getS, lst_of, tup_of, Same.seq, tupS])
local macro_rules | `(tactic| k_offL) => `(tactic| first
  | (show (0 : Int) < _; first | omega | decide)
  | (refine ⟨?_, ?_⟩ <;> first | omega | decide)
  | exact .inr ⟨by decide, by decide⟩
  | exact .inl ⟨by decide, by decide⟩
  | exact .inl ⟨by omega, by omega⟩
  | omega)
local macro_rules | `(tactic| k_clsL) => `(tactic| exact Nat.le_of_ble_eq_true rfl)
local macro_rules | `(tactic| k_upd) => `(tactic| simp only [L2.start, List.map_cons, List.map_nil, List.length_cons, List.length_nil, List.replicate_succ, List.replicate_zero, List.cons_append, List.nil_append, List.set_cons_zero, List.set_cons_succ])
section
variable {P : Program} {w : World} {K : PySem.W.Frag} {mg : Str → Option Value} {base : Heap}
theorem blL_mem {b : Nat} (hb : b < 2 ^ 1024) (r c : Int) (x : Pr) : x ∈ (cellsN b).map (fun y => (r + y.1, c + y.2)) ↔ blL b (x.1 - r) (x.2 - c) = true := by
  unfold blL
  rw [List.mem_map, Bool.and_eq_true, decide_eq_true_iff]
  constructor
  · rintro ⟨y, m, rfl⟩
    unfold cellsN at m
    obtain ⟨j, mj, rfl⟩ := List.mem_map.mp m
    obtain ⟨j1, j2⟩ := mem_bitsB.mp mj
    unfold at32
    dsimp only
    refine ⟨by omega, ?_⟩
    rw [show (r + ((j / 32 : Nat) : Int) - r).toNat * 32 + (c + ((j % 32 : Nat) : Int) - c).toNat = j by omega]
    exact j2
  · rintro ⟨h1, h2⟩
    refine ⟨at32 ((x.1 - r).toNat * 32 + (x.2 - c).toNat), mem_cellsN.mpr ⟨by omega, h2⟩, ?_⟩
    unfold at32
    refine Prod.ext ?_ ?_
    · show r + ((((x.1 - r).toNat * 32 + (x.2 - c).toNat) / 32 : Nat) : Int) = x.1
      omega
    · show c + ((((x.1 - r).toNat * 32 + (x.2 - c).toNat) % 32 : Nat) : Int) = x.2
      omega
theorem cells_nd (b : Nat) (r c : Int) : ((cellsN b).map (fun y => (r + y.1, c + y.2))).Nodup := by
  refine List.pairwise_map.mpr ((nodup_lt (cellsN_asc b)).imp fun {x y} n e => n ?_)
  injection e with e1 e2
  exact Prod.ext (by omega) (by omega)
def sp_cells (C CB CR : Addr) : Sp := fun vs H Q _ => ∃ (A : GA) (G : List Ent) (S n : Nat) (u : Ent) (bs ss : List Int), vs = [.ref A.st, .int (n : Int)] ∧ GS C CB CR bs ss H A G S ∧ G[n]? = some u ∧ u.l ≤ 9 ∧
  ∀ (H' : Hp) (p : Addr) (cs : List Pr), H p = none → Same H H' → Cells H' p cs → cs.Pairwise ltP → (∀ x : Pr, x ∈ cs ↔ u.L x.1 x.2 = true) → Q (.ref p) H'
theorem ok_Store_cells (T : Txt K mg) : FnOk P w K mg base CX0 2 T.f_Store_cells T.d_Store_cells ["self", "square"] (sp_cells T.C_Store T.C_Blocks T.C_Rule) := by
  refine T.F_Store_cells.ok sc_Store_cells (fun vs H Q E h => ?_) (fun cdv A outer s H vs Q E hr h => ?_)
  · obtain ⟨_, _, _, _, _, _, _, rfl, _⟩ := h
    rfl
  · obtain ⟨S, G, Z, n, u, bs, ss, rfl, hS, hn, ul9, q⟩ := h
    refine ⟨_, (pss_cons (ps_set (i := 2) sc_Store_cells.nd rfl (.inl rfl) (pe_lst pa_nil))
      (pss_cons (ps_set (i := 3) sc_Store_cells.nd rfl (.inl rfl) (pe_lst (pa_cons (pe_tup (pa_cons (pv 1) (pa_cons pe_int (pa_cons pe_int pa_nil)))) pa_nil)))
      (pss_cons (ps_while PassesOwn.never (pt_truth (pv 3) (by intro _; rfl))
      (pss_cons (ps_asg (pe_bm0 PySem.F.plainAttrs_list PySem.F.slot_list_pop PySem.F.type_list_pop mt_pop (pv 3)) (pg_tupK (K := K) (n := 3) rfl rfl (pgs_cons (pg_name (i := 4) sc_Store_cells.nd rfl (.inl rfl)) (pgs_cons (pg_name (i := 5) sc_Store_cells.nd rfl (.inr rfl)) (pgs_cons (pg_name (i := 6) sc_Store_cells.nd rfl (.inr rfl)) pgs_nil)))))
      (pss_cons (ps_if (pt_not (pt_truth (pe_ix ix_list (pe_fld (pv 0) rfl) (pv 4) (fun _ _ => rfl)) (by intro _; rfl)))
      (pss_one ps_continue)
      pss_nil)
      (pss_one (ps_if (pt_cmpR op_gt (pe_ix ix_list (pe_fld (pv 0) rfl) (pv 4) (fun _ _ => rfl)) (pe_gcx (by rfl) T.c_TOP) (nomark _))
      (pss_cons (ps_set (i := 7) sc_Store_cells.nd rfl (.inl rfl) (pe_op op_shl pe_int (pe_op op_sub (pe_ix ix_list (pe_fld (pv 0) rfl) (pv 4) (fun _ _ => rfl)) pe_int)))
      (pss_cons (ps_asg (pe_ix ix_list (pe_fld (pv 0) rfl) (pv 4) (fun _ _ => rfl)) (pg_tupK (K := K) (n := 4) rfl rfl (pgs_cons (pg_name (i := 8) sc_Store_cells.nd rfl (.inl rfl)) (pgs_cons (pg_name (i := 9) sc_Store_cells.nd rfl (.inl rfl)) (pgs_cons (pg_name (i := 10) sc_Store_cells.nd rfl (.inl rfl)) (pgs_cons (pg_name (i := 11) sc_Store_cells.nd rfl (.inl rfl)) pgs_nil))))))
      (pss_cons (ps_expr (pe_bm PySem.F.plainAttrs_list PySem.F.slot_list_extend PySem.F.type_list_extend mt_extend (pv 3) (pa_cons (pe_lst (pa_cons (pe_tup (pa_cons (pv 8) (pa_cons (pv 5) (pa_cons (pv 6) pa_nil)))) (pa_cons (pe_tup (pa_cons (pv 9) (pa_cons (pv 5) (pa_cons (pe_op op_add (pv 6) (pv 7)) pa_nil)))) pa_nil))) pa_nil)))
      (pss_one (ps_expr (pe_bm PySem.F.plainAttrs_list PySem.F.slot_list_extend PySem.F.type_list_extend mt_extend (pv 3) (pa_cons (pe_lst (pa_cons (pe_tup (pa_cons (pv 10) (pa_cons (pe_op op_add (pv 5) (pv 7)) (pa_cons (pv 6) pa_nil)))) (pa_cons (pe_tup (pa_cons (pv 11) (pa_cons (pe_op op_add (pv 5) (pv 7)) (pa_cons (pe_op op_add (pv 6) (pv 7)) pa_nil)))) pa_nil))) pa_nil)))))))
      (pss_one (ps_expr (pe_bm PySem.F.plainAttrs_list PySem.F.slot_list_extend PySem.F.type_list_extend mt_extend (pv 2) (pa_cons (pe_lc (own := [("down", 12), ("beside", 13)]) (tt := tYes) rfl sc_Store_cells.nd (pi_list (pe_call (ok_block_cells T) (hr.mono (by decide)) (by rfl) T.g_block_cells T.F_block_cells.kp T.b_block_cells .nil pass0 (pa_cons (pe_ix ix_list (pe_fld (pv 0) rfl) (pv 4) (fun _ _ => rfl)) pa_nil))) (blkOk_by (own := [("down", 12), ("beside", 13)]) (N := N_Store_cells) (sc := defScope s_Store_cells) (by decide +kernel)) (fun _ _ _ _ _ => (pg_tupK (K := K) (n := 2) rfl rfl (pgs_cons (pg_name (i := 12) sc_Store_cells.nd rfl (.inl rfl)) (pgs_cons (pg_name (i := 13) sc_Store_cells.nd rfl (.inl rfl)) pgs_nil)))) (fun _ _ _ _ _ => pts_nil) (fun _ _ _ _ _ => (pe_tup (pa_cons (pe_op op_add (pv 5) (pv 12)) (pa_cons (pe_op op_add (pv 6) (pv 13)) pa_nil))))) pa_nil)))))))))
      (pss_one (ps_ret (pe_callB cr_sortedC (by rfl) T.z_sorted (by decide +kernel) (pa_cons (pv 2) pa_nil))))))), ?_⟩
    k_upd
    refine ⟨by k_clsL, fun fl nf => ?_⟩
    k_invariant "new" (nf, H1, e1, g1)
    k_upd
    refine ⟨_, rfl, by k_clsL, fun t0 nt => ?_⟩
    k_invariant "new" (nt, H2, e2, g2)
    refine ⟨by k_clsL, fun wl nw => ?_⟩
    k_invariant "new" (nw, H3, e3, g3)
    unfold gName
    k_upd
    have e12 := e1.trans (e2.trans e3)
    have nw0 : H wl = none := backS (e1.trans e2) nw
    have nwf : wl ≠ fl := fun e => by rw [e, e2 _ _ g1] at nw; cases nw
    have uok := hS.wf n u hn
    have lw5 : 5 ^ u.l ≤ 1953125 := Nat.le_trans (Nat.pow_le_pow_right (by decide) ul9) (by decide)
    have lp2 : 2 ^ u.l ≤ 512 := Nat.le_trans (Nat.pow_le_pow_right (by decide) ul9) (by decide)
    have flen : ∀ (fs : List Pr) (stk : List SE), CInv G u.L u.l fs stk → fs.length ≤ 262144 := fun fs stk hc => by
      have := box_lenN (lo := 0) (w := 2 ^ u.l) hc.nd fun x m => by
        have := uok.supp _ _ ((hc.all x).mpr (.inl m))
        omega
      exact Nat.le_trans this (Nat.le_trans (Nat.mul_le_mul lp2 lp2) (by decide))
    have slen : ∀ (fs : List Pr) (stk : List SE), CInv G u.L u.l fs stk → stk.length ≤ 1953125 := fun fs stk hc => Nat.le_trans (len_wt stk) (Nat.le_trans hc.wt lw5)
    refine while_by (fun σ H' => Same H H' ∧ (∃ x4 x5 x6 x7 x8 x9 x10 x11 x12 x13 : Option V, σ = [some (.ref S.st), some (.int (n : Int)), some (.ref fl), some (.ref wl), x4, x5, x6, x7, x8, x9, x10, x11, x12, x13]) ∧
        ∃ (fs : List Pr) (stk : List SE), H' wl = some (.lst (refE stk)) ∧ (∀ e ∈ stk, SOk G H' e) ∧ Cells H' fl fs ∧ CInv G u.L u.l fs stk)
        (fun _ H' => wtS G H' (H' wl))
        ⟨e12, ⟨_, _, _, _, _, _, _, _, _, _, rfl⟩, [], [⟨t0, n, 0, 0, u⟩], g3, fun e m => ?_, ⟨[], e3 _ _ (e2 _ _ g1), fun _ m => (by cases m), rfl⟩, ?_⟩ ?_ ?_
    · rw [List.mem_singleton.mp m]
      exact ⟨e3 _ _ g2, hn⟩
    · refine ⟨List.nodup_nil, List.pairwise_singleton _ _, fun _ m => (by cases m), fun x => ?_, ?_, fun e m => by rw [List.mem_singleton.mp m]; exact uok.supp⟩
      · constructor
        · intro k
          refine .inr ⟨_, List.mem_cons_self, ?_⟩
          unfold LiveE
          rw [Int.sub_zero, Int.sub_zero]
          exact k
        · rintro (k | ⟨e, m, k⟩)
          · cases k
          · rw [List.mem_singleton.mp m] at k
            unfold LiveE at k
            rw [Int.sub_zero, Int.sub_zero] at k
            exact k
      · show 5 ^ u.l + 0 ≤ _
        omega
    · rintro σ H4 ⟨sm, ⟨x4, x5, x6, x7, x8, x9, x10, x11, x12, x13, rfl⟩, fs, stk, hw, hok, hC, hI⟩
      rcases List.eq_nil_or_concat stk with z | ⟨stk, e, z⟩
      · subst z
        refine ⟨_, rfl, _, .inl ⟨_, lst_of hw, rfl⟩, iteF ?_⟩
        refine ⟨_, rfl, fl, fs, rfl, hC, hI.nd, fun p H5 qs e5 np c5 can lq => ?_⟩
        refine q H5 p qs (backS sm np) (sm.trans e5) c5 can.1 fun x => (can.2 x).trans ?_
        rw [hI.all]
        exact ⟨.inl, fun k => k.elim id fun ⟨_, m, _⟩ => (by cases m)⟩
      · rw [List.concat_eq_append] at z
        subst z
        have hrf : refE (stk ++ [e]) = refE stk ++ [.ref e.t] := by
          unfold refE
          rw [List.map_append]
          rfl
        rw [hrf] at hw
        obtain ⟨het, hen⟩ := hok e (List.mem_append.mpr (.inr List.mem_cons_self))
        have mu4 : wtS G H4 (H4 wl) = wtE (stk ++ [e]) := wt_stk (by rw [hrf]; exact hw) hok
        refine ⟨_, rfl, true, .inl ⟨_, lst_of hw, by simp⟩, iteT ?_⟩
        k_upd
        refine ⟨_, rfl, .inl ⟨rfl, _, lst_of hw⟩, wl, _, .ref e.t, rfl, rfl, hw, by simp, ?_⟩
        rw [List.dropLast_concat]
        have hok0 : ∀ e ∈ stk, SOk G H4 e := fun e m => hok e (List.mem_append.mpr (.inl m))
        have tne : ∀ e' ∈ stk ++ [e], e'.t ≠ wl := fun e' m z => by
          have := (hok e' m).1
          rw [z, hw] at this
          cases this
        have offw : ∀ {a : Addr}, a ≠ wl → upd H4 wl (.lst (refE stk)) a = H4 a := fun n => upd_ne n
        have ht5 : upd H4 wl (.lst (refE stk)) e.t = some (.tup [.int (e.n : Int), .int e.r, .int e.c]) := by
          rw [offw (tne e (List.mem_append.mpr (.inr List.mem_cons_self)))]
          exact het
        have hok5 : ∀ e ∈ stk, SOk G (upd H4 wl (.lst (refE stk))) e := fun e m => by
          refine ⟨?_, (hok0 e m).2⟩
          rw [offw (tne e (List.mem_append.mpr (.inl m)))]
          exact (hok0 e m).1
        have hC5 : Cells (upd H4 wl (.lst (refE stk))) fl fs := by
          obtain ⟨ts, h1, h2, h3⟩ := hC
          refine ⟨ts, by rw [offw nwf.symm]; exact h1, fun t m => ?_, h3⟩
          rw [offw fun z => by
            have := h2 t m
            rw [z, hw] at this
            cases this]
          exact h2 t m
        have hw5 : upd H4 wl (.lst (refE stk)) wl = some (.lst (refE stk)) := upd_same
        have sm5 : Same H (upd H4 wl (.lst (refE stk))) := mutS sm nw0
        rw [mu4]
        generalize upd H4 wl (.lst (refE stk)) = H5 at ht5 hok5 hC5 hw5 sm5
        have hS5 := hS.up sm5
        obtain ⟨dx, ru, ho⟩ := hS5.ob
        have wlt : wtE stk < wtE (stk ++ [e]) := by
          rw [wt_app]
          have p : 1 ≤ 5 ^ e.u.l := Nat.pow_pos (by decide)
          show _ < _ + (5 ^ e.u.l + 0)
          omega
        refine ⟨e.t, _, rfl, tup_of ht5, rfl, _, _, rfl, _, _, rfl, _, _, rfl, rfl, ?_⟩
        k_upd
        by_cases z : e.u.c = 0
        · refine ⟨_, rfl, S.st, _, _, _, _, rfl, ho, T.cl_Store, T.na_Store__counts, rfl, _, rfl, _, _, _, _, rfl, rfl, lst_of hS5.ct, ctG_at hen, _, tru0 z, iteT ?_⟩
          refine ⟨⟨sm5, ⟨_, _, _, _, _, _, _, _, _, _, rfl⟩, fs, stk, hw5, hok5, hC5, hI.skip ((hS5.wf _ _ hen).cnt.mp z)⟩, ?_⟩
          rw [wt_stk hw5 hok5]
          exact wlt
        · refine ⟨_, rfl, S.st, _, _, _, _, rfl, ho, T.cl_Store, T.na_Store__counts, rfl, _, rfl, _, _, _, _, rfl, rfl, lst_of hS5.ct, ctG_at hen, _, tru1 z, iteF ?_⟩
          refine ⟨_, rfl, S.st, _, _, _, _, rfl, ho, T.cl_Store, T.na_Store__levels, rfl, _, rfl, _, _, _, _, rfl, rfl, lst_of hS5.lv, lvG_at hen, _, _, rfl, rfl, _, rfl, ite2 (fun c => ?_) (fun c => ?_)⟩
          · have c := of_decide_eq_true c
            obtain ⟨l, el⟩ : ∃ l, e.u.l = l + 1 := ⟨e.u.l - 1, by omega⟩
            have el9 : e.u.l ≤ 40 := by
              have w1 := hI.wt
              rw [wt_app] at w1
              have w2 : 5 ^ e.u.l + 0 ≤ 5 ^ u.l := Nat.le_trans (Nat.le_add_left _ _) w1
              exact Classical.byContradiction fun n => by
                have : 5 ^ 41 ≤ 5 ^ e.u.l := Nat.pow_le_pow_right (by decide) (by omega)
                have : 1953125 < 5 ^ 41 := by decide
                omega
            obtain ⟨a, b, c', d, ea, eb, ec, ed, q1, q2, q3, q4, q5, l1, l2, l3, l4, eL⟩ := (hS5.wf _ _ hen).large (by omega)
            obtain ⟨us, gp, lus, tus⟩ := hS5.pt
            obtain ⟨t, t1, t2⟩ := tus _ _ hen (by omega)
            rw [q1] at t2
            have ht := hide_le _ _ t2
            have hsh : (1 : Int) * 2 ^ ((((e.u.l : Nat) : Int) - 1).toNat) = ((2 ^ l : Nat) : Int) := by
              rw [show (((e.u.l : Nat) : Int) - 1).toNat = l by omega, Int.one_mul]
              exact (Int.natCast_pow 2 l).symm
            refine ⟨_, rfl, S.st, _, _, _, _, rfl, ho, T.cl_Store, T.na_Store__levels, rfl, _, rfl, _, _, _, _, rfl, rfl, lst_of hS5.lv, lvG_at hen, _, _, rfl, rfl, _, _, rfl, rfl, ⟨by omega, by omega, by decide⟩, ?_⟩
            k_upd
            rw [hsh]
            refine ⟨_, rfl, S.st, _, _, _, _, rfl, ho, T.cl_Store, T.na_Store__parts, rfl, _, rfl, _, _, _, _, rfl, rfl, lst_of gp, atI_nat t1, ?_⟩
            refine ⟨t, _, rfl, tup_of ht, rfl, _, _, rfl, _, _, rfl, _, _, rfl, _, _, rfl, rfl, ?_⟩
            k_upd
            refine ⟨_, rfl, .inl ⟨rfl, _, lst_of hw5⟩, _, rfl, _, rfl, _, rfl, (by k_clsL), fun ta nta => ?_⟩
            k_invariant "new" (nta, J1, d1, y1)
            refine ⟨_, rfl, _, rfl, _, rfl, _, rfl, _, _, rfl, rfl, (by k_clsL), fun tb ntb => ?_⟩
            k_invariant "new" (ntb, J2, d2, y2)
            refine ⟨(by k_clsL), fun lp nlp => ?_⟩
            k_invariant "new" (nlp, J3, d3, y3)
            have d13 := d1.trans (d2.trans d3)
            have hw6 := d13 _ _ hw5
            have hI2 : CInv G u.L u.l fs (stk ++ [e]) := hI
            have rl : (refE stk).length ≤ 1953125 := by
              have := slen _ _ hI2
              unfold refE
              rw [List.length_append] at this
              rw [List.length_map]
              omega
            refine ⟨wl, lp, _, _, rfl, rfl, hw6, y3, by rw [sizeLine_eq]; show _ + 2 ≤ _; omega, ?_⟩
            have w7 : upd J3 wl (.lst (refE stk ++ [V.ref ta, .ref tb])) wl = some (.lst (refE stk ++ [V.ref ta, .ref tb])) := upd_same
            have keep : ∀ {a : Addr} {o : HO}, J3 a = some o → (∀ xs, o ≠ .lst xs) → upd J3 wl (.lst (refE stk ++ [V.ref ta, .ref tb])) a = some o := fun {a o} h n => by
              rw [upd_ne fun z => by rw [z, hw6] at h; exact n _ (Option.some.inj h).symm]
              exact h
            have ka := keep (d3 _ _ (d2 _ _ y1)) fun _ z => (by cases z)
            have kb := keep (d3 _ _ y2) fun _ z => (by cases z)
            have kst : ∀ e ∈ stk, upd J3 wl (.lst (refE stk ++ [V.ref ta, .ref tb])) e.t = some (.tup [.int (e.n : Int), .int e.r, .int e.c]) := fun e m => keep (d13 _ _ (hok5 e m).1) fun _ z => (by cases z)
            have kC : Cells (upd J3 wl (.lst (refE stk ++ [V.ref ta, .ref tb]))) fl fs := by
              obtain ⟨ts, h1, h2, h3⟩ := hC5.up d13
              exact ⟨ts, by rw [upd_ne nwf.symm]; exact h1, fun t m => keep (h2 t m) fun _ z => (by cases z), h3⟩
            have sm7 : Same H (upd J3 wl (.lst (refE stk ++ [V.ref ta, .ref tb]))) := mutS (sm5.trans d13) nw0
            generalize upd J3 wl (.lst (refE stk ++ [V.ref ta, .ref tb])) = J4 at w7 ka kb kst kC sm7
            refine ⟨_, rfl, .inl ⟨rfl, _, lst_of w7⟩, _, rfl, _, rfl, _, rfl, _, _, rfl, rfl, _, rfl, (by k_clsL), fun tc ntc => ?_⟩
            k_invariant "new" (ntc, J5, d5, y5)
            refine ⟨_, rfl, _, rfl, _, rfl, _, _, rfl, rfl, _, rfl, _, rfl, _, _, rfl, rfl, (by k_clsL), fun td ntd => ?_⟩
            k_invariant "new" (ntd, J6, d6, y6)
            refine ⟨(by k_clsL), fun lq nlq => ?_⟩
            k_invariant "new" (nlq, J7, d7, y7)
            have d57 := d5.trans (d6.trans d7)
            have w8 := d57 _ _ w7
            refine ⟨wl, lq, _, _, rfl, rfl, w8, y7, by rw [sizeLine_eq, List.length_append]; show _ + 2 + 2 ≤ _; omega, ?_⟩
            have keep2 : ∀ {a : Addr} {o : HO}, J7 a = some o → (∀ xs, o ≠ .lst xs) → upd J7 wl (.lst (refE stk ++ [V.ref ta, .ref tb] ++ [V.ref tc, .ref td])) a = some o := fun {a o} h n => by
              rw [upd_ne fun z => by rw [z, w8] at h; exact n _ (Option.some.inj h).symm]
              exact h
            have la : ea.l = l := by omega
            have lb : eb.l = l := by omega
            have lcc : ec.l = l := by omega
            have ld : ed.l = l := by omega
            obtain ⟨sp, wl2⟩ := hI.split (a := ⟨ta, a, e.r, e.c, ea⟩) (b := ⟨tb, b, e.r, e.c + ((2 ^ l : Nat) : Int), eb⟩) (c := ⟨tc, c', e.r + ((2 ^ l : Nat) : Int), e.c, ec⟩) (d := ⟨td, d, e.r + ((2 ^ l : Nat) : Int), e.c + ((2 ^ l : Nat) : Int), ed⟩) el la lb lcc ld
              (by have := (hS5.wf _ _ q2).supp; rw [la] at this; exact this) (by have := (hS5.wf _ _ q3).supp; rw [lb] at this; exact this) (by have := (hS5.wf _ _ q4).supp; rw [lcc] at this; exact this) (by have := (hS5.wf _ _ q5).supp; rw [ld] at this; exact this)
              (by rw [la] at eL; exact eL) ⟨rfl, rfl⟩ ⟨rfl, rfl⟩ ⟨rfl, rfl⟩ ⟨rfl, rfl⟩
            have ref4 : refE (stk ++ [⟨ta, a, e.r, e.c, ea⟩, ⟨tb, b, e.r, e.c + ((2 ^ l : Nat) : Int), eb⟩] ++ [⟨tc, c', e.r + ((2 ^ l : Nat) : Int), e.c, ec⟩, ⟨td, d, e.r + ((2 ^ l : Nat) : Int), e.c + ((2 ^ l : Nat) : Int), ed⟩]) = refE stk ++ [V.ref ta, .ref tb] ++ [V.ref tc, .ref td] := by
              unfold refE
              rw [List.map_append, List.map_append]
              rfl
            have ok8 : ∀ e' ∈ stk ++ [⟨ta, a, e.r, e.c, ea⟩, ⟨tb, b, e.r, e.c + ((2 ^ l : Nat) : Int), eb⟩] ++ [⟨tc, c', e.r + ((2 ^ l : Nat) : Int), e.c, ec⟩, ⟨td, d, e.r + ((2 ^ l : Nat) : Int), e.c + ((2 ^ l : Nat) : Int), ed⟩], SOk G (upd J7 wl (.lst (refE stk ++ [V.ref ta, .ref tb] ++ [V.ref tc, .ref td]))) e' := fun e' m => by
              simp only [List.mem_append, List.mem_cons, List.not_mem_nil, or_false] at m
              rcases m with (m | rfl | rfl) | rfl | rfl
              · exact ⟨keep2 (d57 _ _ (kst e' m)) fun _ z => (by cases z), (hok5 e' m).2⟩
              · exact ⟨keep2 (d57 _ _ ka) fun _ z => (by cases z), q2⟩
              · exact ⟨keep2 (d57 _ _ kb) fun _ z => (by cases z), q3⟩
              · exact ⟨keep2 (d7 _ _ (d6 _ _ y5)) fun _ z => (by cases z), q4⟩
              · exact ⟨keep2 (d7 _ _ y6) fun _ z => (by cases z), q5⟩
            have w9 : upd J7 wl (.lst (refE stk ++ [V.ref ta, .ref tb] ++ [V.ref tc, .ref td])) wl = some (.lst (refE (stk ++ [⟨ta, a, e.r, e.c, ea⟩, ⟨tb, b, e.r, e.c + ((2 ^ l : Nat) : Int), eb⟩] ++ [⟨tc, c', e.r + ((2 ^ l : Nat) : Int), e.c, ec⟩, ⟨td, d, e.r + ((2 ^ l : Nat) : Int), e.c + ((2 ^ l : Nat) : Int), ed⟩]))) := by
              rw [ref4]
              exact upd_same
            refine ⟨⟨mutS (sm7.trans d57) nw0, ⟨_, _, _, _, _, _, _, _, _, _, rfl⟩, fs, _, w9, ok8, ?_, sp⟩, ?_⟩
            · obtain ⟨ts, h1, h2, h3⟩ := kC.up d57
              exact ⟨ts, by rw [upd_ne nwf.symm]; exact h1, fun t m => keep2 (h2 t m) fun _ z => (by cases z), h3⟩
            · rw [wt_stk w9 ok8]
              exact wl2
          · have el5 : e.u.l ≤ 5 := Classical.byContradiction fun n => c (decide_eq_true (by omega))
            obtain ⟨hf, eL⟩ := (hS5.wf _ _ hen).small el5
            have hb := fit_lt (by omega) hf
            refine ⟨_, rfl, .inl ⟨rfl, _, lst_of hC5.choose_spec.1⟩, _, rfl, S.st, _, _, _, _, rfl, ho, T.cl_Store, T.na_Store__bits, rfl, _, rfl, _, _, _, _, rfl, rfl, lst_of hS5.bt, btG_at hen, ?_⟩
            refine ⟨e.u.b, hb, rfl, fun H6 pc npc e6 hC6 => ?_⟩
            refine ⟨pc, rfl, ⟨_, lst_of hC6.choose_spec.1⟩, fun D nD => lc_cells (fun x => (e.r + x.1, e.c + x.2)) hC6 nD ?_ ?_ fun H7 e7 h7 => ?_⟩
            · rw [cellsN_len, sizeLine_eq]
              exact Nat.lt_of_le_of_lt (bitsB_len 1024 e.u.b) (by decide)
            · intro t x H' Po Pn _ ht hq
              exact ⟨t, _, rfl, tup_of ht, rfl, _, _, rfl, _, _, rfl, rfl, wipe2 _ 12 13 _ _, tyesT ⟨_, rfl, _, rfl, _, _, rfl, rfl, _, rfl, _, rfl, _, _, rfl, rfl, by k_clsL, fun t2 n2 => hq t2 n2⟩⟩
            · have hI7 := hI.take (cells_nd e.u.b e.r e.c) fun x => by
                rw [blL_mem hb, ← eL]
                exact Iff.rfl
              obtain ⟨us, u1, u2, u3⟩ := h7
              have e67 := e6.trans e7
              obtain ⟨ts, v1, v2, v3⟩ := hC5.up e67
              have lfs := flen _ _ hI7
              rw [List.length_append] at lfs
              have l1 : us.length = ((cellsN e.u.b).map (fun x => (e.r + x.1, e.c + x.2))).length := by rw [← u3, List.length_map]
              have l2 : ts.length = fs.length := by rw [← v3, List.length_map]
              refine ⟨fl, D, _, _, rfl, rfl, v1, u1, ?_, ⟨mutS (sm5.trans e67) nf, ⟨_, _, _, _, _, _, _, _, _, _, rfl⟩, _, stk, ?_, fun e' m => ⟨?_, (hok5 e' m).2⟩, ⟨ts ++ us, ?_, fun t m => ?_, ?_⟩, hI7⟩, ?_⟩
              · rw [List.length_map, List.length_map, sizeLine_eq]
                omega
              · rw [upd_ne nwf]
                exact e67 _ _ hw5
              · have := e67 _ _ (hok5 e' m).1
                rw [upd_ne fun z => by rw [z, v1] at this; cases this]
                exact this
              · rw [upd_same, List.map_append]
              · have : H7 t.1 = some (.tup [.int t.2.1, .int t.2.2]) := (List.mem_append.mp m).elim (v2 t) (u2 t)
                rw [upd_ne fun z => by rw [z, v1] at this; cases this]
                exact this
              · rw [List.map_append, v3, u3]
              · rw [wt_stk (stk := stk) (by rw [upd_ne nwf]; exact e67 _ _ hw5) fun e' m => ⟨by
                  have := e67 _ _ (hok5 e' m).1
                  rw [upd_ne fun z => by rw [z, v1] at this; cases this]
                  exact this, (hok5 e' m).2⟩]
                exact wlt
    · exact fun σ H Q Q' m h => h.elim fun v h => ⟨v, h.1, h.2.elim fun k h => ⟨k, h.1, m _ _ h.2⟩⟩
end
end My
namespace My
open PySem PySem.Spec PyProof.Rows L2 Vx
open TL
local macro_rules | `(tactic| k_invariant "new" ($n, $H:ident, $e:ident, $h:ident)) => `(tactic| (generalize hE : upd _ _ _ = $H; obtain ⟨$e:ident, $h:ident⟩ := gen_e hE $n; clear hE))
local macro_rules | `(tactic| k_places) => `(tactic| first
  | assumption
  | exact lst_of (by assumption)
  | exact tup_of (by assumption)
  | (refine getS (by assumption) ?_; k_places)
  | (refine Same.seq (by assumption) ?_; k_places)
  | (refine tupS (by assumption) ?_; k_places)
  | (refine lst_of ?_; k_places)
  | (refine tup_of ?_; k_places))
local macro_rules | `(tactic| k_subL) => `(tactic| first
  | k_places
  | solve_by_elim (maxDepth := 10) [getS, lst_of, tup_of, Same.seq, tupS])
local macro_rules | `(tactic| k_offL) => `(tactic| first
  | (show (0 : Int) < _; first | omega | decide)
  | (refine ⟨?_, ?_⟩ <;> first | omega | decide)
  | exact .inr ⟨by decide, by decide⟩
  | exact .inl ⟨by decide, by decide⟩
  | exact .inl ⟨by omega, by omega⟩
  | omega)
local macro_rules | `(tactic| k_clsL) => `(tactic| exact Nat.le_of_ble_eq_true rfl)
local macro_rules | `(tactic| k_upd) => `(tactic| simp only [L2.start, List.map_cons, List.map_nil, List.length_cons, List.length_nil, List.replicate_succ, List.replicate_zero, List.cons_append, List.nil_append, List.set_cons_zero, List.set_cons_succ])
section
variable {P : Program} {w : World} {K : PySem.W.Frag} {mg : Str → Option Value} {base : Heap}
theorem ok_law_cell (T : Txt K mg) : FnOk P w K mg base CX0 1 T.f_law_cell T.d_law_cell ["script", "k"] (spCell K) := by
  refine T.F_law_cell.ok sc_law_cell (fun vs H Q E h => ?_) (fun cdv A outer s H vs Q E hr h => ?_)
  · obtain ⟨l, ns, j, rfl, _⟩ := h
    rfl
  · obtain ⟨l, ns, j, rfl, hs, q⟩ := h
    refine ⟨_, (pss_cons (ps_if (pt_cmpR op_lt (pv 1) (pe_callB call_lenL (by rfl) T.z_len (by decide +kernel) (pa_cons (pv 0) pa_nil)) (nomark _))
      (pss_one (ps_ret (pe_callTy call_intI (by rfl) T.z_int (by decide +kernel) (pa_cons (pe_ix ix_list (pv 0) (pv 1) (fun _ _ => rfl)) pa_nil))))
      pss_nil)
      (pss_one (ps_ret pe_int))), ?_⟩
    refine ⟨_, rfl, _, rfl, _, _, rfl, hs, _, _, rfl, rfl, _, rfl, ite2 (fun c => ?_) (fun c => ?_)⟩
    · have hj : j < ns.length := by
        have z := of_decide_eq_true c
        rw [List.length_map] at z
        omega
      exact ⟨_, rfl, _, rfl, _, _, _, _, rfl, rfl, hs, atI_cell hj, _, rfl, q⟩
    · have hj : ¬ j < ns.length := fun z => c (decide_eq_true (by rw [List.length_map]; omega))
      rw [cell_out hj] at q
      exact q
/-! ### law_row: so many numbers from 0 to below the bound -/
def sp_law_row : Sp := fun vs H Q _ => ∃ (cell count bound : Int), vs = [.int cell, .int count, .int bound] ∧ 0 ≤ count ∧ count ≤ 100000 ∧ 0 < bound ∧ bound < 1000000000 ∧
  ∀ (H' : Hp) (p : Addr) (xs : List Int), H p = none → Same H H' → H' p = some (.lst (xs.map V.int)) → (xs.length : Int) = count → (∀ x ∈ xs, 0 ≤ x ∧ x < bound) → Q (.ref p) H'
theorem ok_law_row (T : Txt K mg) : FnOk P w K mg base CX0 1 T.f_law_row T.d_law_row ["cell", "count", "bound"] sp_law_row := by
  refine T.F_law_row.ok sc_law_row (fun vs H Q E h => ?_) (fun cdv A outer s H vs Q E hr h => ?_)
  · obtain ⟨_, _, _, rfl, _⟩ := h
    rfl
  · obtain ⟨cell, count, bound, rfl, c0, c1, b0, b1, q⟩ := h
    refine ⟨_, (pss_cons (ps_set (i := 3) sc_law_row.nd rfl (.inl rfl) (pe_callB call_abs (by rfl) T.z_abs (by decide +kernel) (pa_cons (pe_callTy call_intI (by rfl) T.z_int (by decide +kernel) (pa_cons (pv 0) pa_nil)) pa_nil)))
      (pss_cons (ps_set (i := 4) sc_law_row.nd rfl (.inl rfl) (pe_op op_add (pe_op op_mod (pe_callTy call_intI (by rfl) T.z_int (by decide +kernel) (pa_cons (pv 0) pa_nil)) pe_int) pe_int))
      (pss_cons (ps_set (i := 5) sc_law_row.nd rfl (.inl rfl) (pe_lst pa_nil))
      (pss_cons (ps_for PassesOwn.never rfl (pi_range1 (by rfl) T.z_range (pa_cons (pv 1) pa_nil)) (pg_name (i := 6) sc_law_row.nd rfl (.inl rfl))
      (pss_one (ps_if (pt_cmpR op_ge (pv 3) (pv 2) (nomark _))
      (pss_cons (ps_expr (pe_bm PySem.F.plainAttrs_list PySem.F.slot_list_append PySem.F.type_list_append mt_append (pv 5) (pa_cons (pe_op op_mod (pe_callTy call_intI (by rfl) T.z_int (by decide +kernel) (pa_cons (pv 3) pa_nil)) (pv 2)) pa_nil)))
      (pss_one (ps_set (i := 3) sc_law_row.nd rfl (.inl rfl) (pe_op op_fdiv (pv 3) (pv 2)))))
      (pss_cons (ps_set (i := 4) sc_law_row.nd rfl (.inl rfl) (pe_op op_mod (pe_callTy call_intI (by rfl) T.z_int (by decide +kernel) (pa_cons (pe_op op_add (pe_op op_add (pe_op op_mul (pv 4) pe_int) (pe_op op_mul pe_int (pv 6))) pe_int) pa_nil)) pe_int))
      (pss_one (ps_expr (pe_bm PySem.F.plainAttrs_list PySem.F.slot_list_append PySem.F.type_list_append mt_append (pv 5) (pa_cons (pe_op op_mod (pe_callTy call_intI (by rfl) T.z_int (by decide +kernel) (pa_cons (pe_op op_fdiv (pe_op op_mul (pv 4) pe_int) pe_int) pa_nil)) (pv 2)) pa_nil))))))))
      (pss_one (ps_ret (pv 5))))))), ?_⟩
    refine ⟨_, rfl, _, rfl, _, rfl, _, rfl, _, rfl, _, _, rfl, rfl, (by k_offL), _, _, rfl, rfl, Nat.zero_le _, fun p1 n1 => ?_⟩
    k_invariant "new" (n1, H1, e1, h1)
    refine ⟨_, rfl, _, rfl, by omega, by omega, for_range (lo := 0) (n := count.toNat) (fun i σ H' => ∃ (rest mixed : Int) (xs : List Int) (v : Option V), σ = [some (.int cell), some (.int count), some (.int bound), some (.int rest), some (.int mixed), some (.ref p1), v] ∧
      Same H H' ∧ H' p1 = some (.lst (xs.map V.int)) ∧ xs.length = i ∧ (∀ x ∈ xs, 0 ≤ x ∧ x < bound) ∧ 0 ≤ mixed ∧ mixed < 4294967296) ?_ ?_ ?_⟩
    · refine ⟨_, _, [], none, rfl, e1, h1, rfl, by simp, ?_, ?_⟩
      · have := Int.emod_nonneg cell (show (1000003 : Int) ≠ 0 by decide)
        omega
      · have := Int.emod_lt_of_pos cell (show (0 : Int) < 1000003 by decide)
        omega
    · rintro i σ H' hi ⟨rest, mixed, xs, v, rfl, sm, hp, hl, hx, m0, m1⟩
      refine ⟨_, rfl, _, rfl, _, _, rfl, rfl, _, rfl, ite2 (fun c => ?_) (fun c => ?_)⟩
      · refine ⟨_, rfl, .inl ⟨rfl, _, lst_of hp⟩, _, rfl, _, rfl, _, rfl, _, _, rfl, rfl, b0, _, _, _, rfl, rfl, hp, ?_, ?_⟩
        · rw [List.length_map]
          exact Nat.lt_of_lt_of_le (show xs.length < 100001 by omega) (by decide)
        · refine ⟨_, rfl, _, rfl, _, _, rfl, rfl, ⟨b0, by omega⟩, _, _, xs ++ [rest % bound], _, rfl, mutS sm n1, ?_, by simp [hl], fun x h => ?_, m0, m1⟩
          · rw [upd_same]
            simp
          · rcases List.mem_append.mp h with h | h
            · exact hx x h
            · rw [List.mem_singleton.mp h]
              exact ⟨Int.emod_nonneg _ (by omega), Int.emod_lt_of_pos _ b0⟩
      · refine ⟨_, rfl, _, _, rfl, rfl, .inr ⟨by decide, by decide⟩, _, rfl, _, _, rfl, rfl, .inl ⟨by decide, by decide⟩, _, _, rfl, rfl, _, _, rfl, rfl, _, rfl, _, _, rfl, rfl, (by k_offL), ?_⟩
        refine ⟨_, rfl, .inl ⟨rfl, _, lst_of hp⟩, _, rfl, _, _, rfl, rfl, .inr ⟨by decide, by decide⟩, _, _, rfl, rfl, ⟨by decide, by decide⟩, _, rfl, _, rfl, _, _, rfl, rfl, b0, _, _, _, rfl, rfl, hp, ?_, ?_⟩
        · rw [List.length_map]
          exact Nat.lt_of_lt_of_le (show xs.length < 100001 by omega) (by decide)
        · refine ⟨_, _, xs ++ [(mixed * 48271 + 11 * (0 + (i : Int)) + 7) % 2147483647 * 2862933555777941757 / 1024 % bound], _, rfl, mutS sm n1, ?_, by simp [hl], fun x h => ?_, Int.emod_nonneg _ (by decide), ?_⟩
          · rw [upd_same, List.map_append]
            rfl
          · rcases List.mem_append.mp h with h | h
            · exact hx x h
            · rw [List.mem_singleton.mp h]
              exact ⟨Int.emod_nonneg _ (by omega), Int.emod_lt_of_pos _ b0⟩
          · exact Int.lt_trans (Int.emod_lt_of_pos _ (by decide)) (by decide)
    · rintro σ H' ⟨rest, mixed, xs, v, rfl, sm, hp, hl, hx, _, _⟩
      exact ⟨_, rfl, q H' p1 xs n1 sm hp (by omega) hx⟩
def Good (lo : Int) (l : List Int) : Prop := l.Pairwise (· < ·) ∧ (∀ b ∈ l, lo ≤ b ∧ b ≤ 8) ∧ l.length ≤ 9
theorem pow9 : ∀ n : Nat, n ≤ 9 → 0 < (2 : Int) ^ n ∧ (2 : Int) ^ n ≤ 512 := by decide
theorem good_snoc {lo hi : Int} {l : List Int} (h1 : l.Pairwise (· < ·)) (h2 : ∀ b ∈ l, lo ≤ b ∧ b < hi) (h : lo ≤ hi) : (l ++ [hi]).Pairwise (· < ·) ∧ ∀ b ∈ l ++ [hi], lo ≤ b ∧ b < hi + 1 := by
  constructor
  · rw [List.pairwise_append]
    refine ⟨h1, by simp, fun a ha b hb => ?_⟩
    rw [List.mem_singleton.mp hb]
    exact (h2 a ha).2
  · intro b hb
    rcases List.mem_append.mp hb with hb | hb
    · have := h2 b hb
      omega
    · rw [List.mem_singleton.mp hb]
      omega
def sp_law_numbers : Sp := fun vs H Q _ => ∃ (cell : Int), vs = [.int cell] ∧
  ∀ (H' : Hp) (p pb ps : Addr) (bs ss : List Int), Same H H' → H' p = some (.tup [.ref pb, .ref ps]) → H' pb = some (.lst (bs.map V.int)) → H' ps = some (.lst (ss.map V.int)) → Good 1 bs → Good 0 ss → Q (.ref p) H'
theorem ok_law_numbers (T : Txt K mg) : FnOk P w K mg base CX0 1 T.f_law_numbers T.d_law_numbers ["cell"] sp_law_numbers := by
  refine T.F_law_numbers.ok sc_law_numbers (fun vs H Q E h => ?_) (fun cdv A outer s H vs Q E hr h => ?_)
  · obtain ⟨_, rfl, _⟩ := h
    rfl
  · obtain ⟨cell, rfl, q⟩ := h
    refine ⟨_, (pss_cons (ps_set (i := 1) sc_law_numbers.nd rfl (.inr rfl) (pe_callB call_abs (by rfl) T.z_abs (by decide +kernel) (pa_cons (pe_callTy call_intI (by rfl) T.z_int (by decide +kernel) (pa_cons (pv 0) pa_nil)) pa_nil)))
      (pss_cons (ps_setLc (i := 2) (own := [("k", 4)]) (g := gName 4) rfl sc_law_numbers.nd rfl rfl (sw_true rfl rfl rfl (by decide +kernel)) (pi_range2 (by rfl) T.z_range (pa_cons pe_int (pa_cons pe_int pa_nil))) (blkOk_by (own := [("k", 4)]) (N := N_law_numbers) (sc := defScope s_law_numbers) (by decide +kernel)) (fun _ _ _ _ _ => pg_name (i := 4) sc_law_numbers.nd rfl (Or.inl rfl)) (fun _ _ _ _ _ => pts_one (pt_cmpR op_eq (pe_op op_mod (pe_op op_fdiv (pv 1) (pe_op op_shl pe_int (pv 4))) pe_int) pe_int (nomark _))) (fun _ _ _ _ _ => (pv 4)))
      (pss_cons (ps_setLc (i := 3) (own := [("k", 4)]) (g := gName 4) rfl sc_law_numbers.nd rfl rfl (sw_true rfl rfl rfl (by decide +kernel)) (pi_range1 (by rfl) T.z_range (pa_cons pe_int pa_nil)) (blkOk_by (own := [("k", 4)]) (N := N_law_numbers) (sc := defScope s_law_numbers) (by decide +kernel)) (fun _ _ _ _ _ => pg_name (i := 4) sc_law_numbers.nd rfl (Or.inl rfl)) (fun _ _ _ _ _ => pts_one (pt_cmpR op_eq (pe_op op_mod (pe_op op_fdiv (pv 1) (pe_op op_shl pe_int (pv 4))) pe_int) pe_int (nomark _))) (fun _ _ _ _ _ => (pv 4)))
      (pss_cons (ps_if (pt_cmpR op_eq (pe_op op_mod (pe_op op_fdiv (pv 1) pe_int) pe_int) pe_int (nomark _))
      (pss_cons (ps_set (i := 2) sc_law_numbers.nd rfl (.inl rfl) (pe_ix ix_list (pe_lst (pa_cons (pe_lst (pa_cons pe_int pa_nil)) (pa_cons (pe_lst (pa_cons pe_int (pa_cons pe_int pa_nil))) (pa_cons (pe_lst (pa_cons pe_int pa_nil)) (pa_cons (pe_lst (pa_cons pe_int (pa_cons pe_int (pa_cons pe_int pa_nil)))) (pa_cons (pe_lst (pa_cons pe_int (pa_cons pe_int pa_nil))) pa_nil)))))) (pe_op op_mod (pe_op op_fdiv (pv 1) pe_int) pe_int) (fun _ _ => rfl)))
      (pss_one (ps_set (i := 3) sc_law_numbers.nd rfl (.inl rfl) (pe_ix ix_list (pe_lst (pa_cons (pe_lst (pa_cons pe_int (pa_cons pe_int pa_nil))) (pa_cons (pe_lst (pa_cons pe_int (pa_cons pe_int pa_nil))) (pa_cons (pe_lst pa_nil) (pa_cons (pe_lst (pa_cons pe_int (pa_cons pe_int (pa_cons pe_int (pa_cons pe_int pa_nil))))) (pa_cons (pe_lst (pa_cons pe_int (pa_cons pe_int (pa_cons pe_int pa_nil)))) pa_nil)))))) (pe_op op_mod (pe_op op_fdiv (pv 1) pe_int) pe_int) (fun _ _ => rfl)))))
      pss_nil)
      (pss_one (ps_ret (pe_tup (pa_cons (pv 2) (pa_cons (pv 3) pa_nil))))))))), ?_⟩
    refine ⟨_, rfl, _, rfl, _, rfl, ?_⟩
    generalize (if cell < 0 then -cell else cell) = x
    -- births
    refine ⟨1, 9, rfl, ⟨by decide, by decide, by decide, by decide⟩, fun p1 n1 => lc_range (lo := 1) (n := 8) (fun i H' => ∃ ys : List Int, Same H H' ∧ H' p1 = some (.lst (ys.map V.int)) ∧ ys.length ≤ i ∧ ys.Pairwise (· < ·) ∧ ∀ b ∈ ys, 1 ≤ b ∧ b < 1 + (i : Int))
      ⟨[], newS n1, upd_same, by simp, by simp, by simp⟩ ?_ ?_⟩
    · rintro i H' hi ⟨ys, sm, hp, hl, h1, h2⟩
      have pw := pow9 (1 + (i : Int)).toNat (by omega)
      refine ⟨rfl, _, rfl, _, rfl, _, _, rfl, rfl, ⟨by omega, by omega, by decide⟩, _, _, rfl, rfl, ⟨?_, ?_⟩, _, _, rfl, rfl, (by k_offL), rfl, _, rfl, ite2 (fun c => ?_) (fun c => ?_)⟩
      · show (0 : Int) < 1 * 2 ^ (1 + (i : Int)).toNat
        omega
      · show (1 : Int) * 2 ^ (1 + (i : Int)).toNat < 1073741824
        omega
      · have g := good_snoc h1 h2 (by omega)
        refine ⟨_, rfl, _, hp, ?_, ys ++ [1 + (i : Int)], mutS sm n1, ?_, by simp; omega, g.1, fun b hb => ?_⟩
        · rw [List.length_map]
          exact Nat.lt_of_lt_of_le (show ys.length < 100 by omega) (by decide)
        · rw [upd_same, List.map_append]
          rfl
        · have := g.2 b hb
          omega
      · exact ⟨ys, sm, hp, by omega, h1, fun b hb => by have := h2 b hb; omega⟩
    rintro H1 ⟨bs, e1, hb, lb, gb1, gb2⟩
    have gb : Good 1 bs := ⟨gb1, fun b h => by have := gb2 b h; omega, by omega⟩
    -- survival
    refine ⟨9, rfl, by decide, by decide, fun p2 n2 => lc_range (lo := 0) (n := 9) (fun i H' => ∃ ys : List Int, Same H1 H' ∧ H' p2 = some (.lst (ys.map V.int)) ∧ ys.length ≤ i ∧ ys.Pairwise (· < ·) ∧ ∀ b ∈ ys, 0 ≤ b ∧ b < 0 + (i : Int))
      ⟨[], newS n2, upd_same, by simp, by simp, by simp⟩ ?_ ?_⟩
    · rintro i H' hi ⟨ys, sm, hp, hl, h1, h2⟩
      have pw := pow9 (0 + (i : Int)).toNat (by omega)
      refine ⟨rfl, _, rfl, _, rfl, _, _, rfl, rfl, ⟨by omega, by omega, by decide⟩, _, _, rfl, rfl, ⟨?_, ?_⟩, _, _, rfl, rfl, (by k_offL), rfl, _, rfl, ite2 (fun c => ?_) (fun c => ?_)⟩
      · show (0 : Int) < 512 * 2 ^ (0 + (i : Int)).toNat
        omega
      · show (512 : Int) * 2 ^ (0 + (i : Int)).toNat < 1073741824
        omega
      · have g := good_snoc h1 h2 (by omega)
        refine ⟨_, rfl, _, hp, ?_, ys ++ [0 + (i : Int)], mutS sm n2, ?_, by simp; omega, g.1, fun b hb => ?_⟩
        · rw [List.length_map]
          exact Nat.lt_of_lt_of_le (show ys.length < 100 by omega) (by decide)
        · rw [upd_same, List.map_append]
          rfl
        · have := g.2 b hb
          omega
      · exact ⟨ys, sm, hp, by omega, h1, fun b hb => by have := h2 b hb; omega⟩
    rintro H2 ⟨ss, e2, hs, ls, gs1, gs2⟩
    have gs : Good 0 ss := ⟨gs1, fun b h => by have := gs2 b h; omega, by omega⟩
    have hb2 := getS e2 hb
    have e02 := e1.trans e2
    -- if
    refine ⟨_, rfl, _, _, rfl, rfl, ⟨by decide, by decide⟩, _, _, rfl, rfl, (by k_offL), rfl, _, rfl, ite2 (fun c => ?_) (fun c => ?_)⟩
    · refine ⟨by decide, fun a1 m1 => ?_⟩
      k_invariant "new" (m1, A1, ea1, h1)
      refine ⟨by decide, fun a2 m2 => ?_⟩
      k_invariant "new" (m2, A2, ea2, h2)
      refine ⟨by decide, fun a3 m3 => ?_⟩
      k_invariant "new" (m3, A3, ea3, h3)
      refine ⟨by decide, fun a4 m4 => ?_⟩
      k_invariant "new" (m4, A4, ea4, h4)
      refine ⟨by decide, fun a5 m5 => ?_⟩
      k_invariant "new" (m5, A5, ea5, h5)
      refine ⟨by k_clsL, fun a6 m6 => ?_⟩
      k_invariant "new" (m6, A6, ea6, h6)
      have pick : ∃ (pb : Addr) (l : List Int), atI [V.ref a1, .ref a2, .ref a3, .ref a4, .ref a5] (x / 786432 % 5) = some (.ref pb) ∧ A6 pb = some (.lst (l.map V.int)) ∧ Good 1 l := by
        have z0 := Int.emod_nonneg (x / 786432) (show (5 : Int) ≠ 0 by decide)
        have z1 := Int.emod_lt_of_pos (x / 786432) (show (0 : Int) < 5 by decide)
        generalize x / 786432 % 5 = j at z0 z1
        have : j = 0 ∨ j = 1 ∨ j = 2 ∨ j = 3 ∨ j = 4 := by omega
        rcases this with rfl | rfl | rfl | rfl | rfl
        · exact ⟨a1, [3], rfl, by k_subL, by unfold Good; decide⟩
        · exact ⟨a2, [3, 6], rfl, by k_subL, by unfold Good; decide⟩
        · exact ⟨a3, [2], rfl, by k_subL, by unfold Good; decide⟩
        · exact ⟨a4, [3, 7, 8], rfl, by k_subL, by unfold Good; decide⟩
        · exact ⟨a5, [2, 5], rfl, by k_subL, by unfold Good; decide⟩
      obtain ⟨pb, l, hpk, hl, gl⟩ := pick
      refine ⟨_, rfl, _, _, rfl, rfl, ⟨by decide, by decide⟩, _, _, rfl, rfl, (by k_offL), _, _, _, _, rfl, rfl, by k_subL, hpk, ?_⟩
      refine ⟨by decide, fun b1 m1 => ?_⟩
      k_invariant "new" (m1, B1, eb1, h1)
      refine ⟨by decide, fun b2 m2 => ?_⟩
      k_invariant "new" (m2, B2, eb2, h2)
      refine ⟨by decide, fun b3 m3 => ?_⟩
      k_invariant "new" (m3, B3, eb3, h3)
      refine ⟨by decide, fun b4 m4 => ?_⟩
      k_invariant "new" (m4, B4, eb4, h4)
      refine ⟨by decide, fun b5 m5 => ?_⟩
      k_invariant "new" (m5, B5, eb5, h5)
      refine ⟨by k_clsL, fun b6 m6 => ?_⟩
      k_invariant "new" (m6, B6, eb6, h6)
      have pick : ∃ (pb : Addr) (l : List Int), atI [V.ref b1, .ref b2, .ref b3, .ref b4, .ref b5] (x / 3932160 % 5) = some (.ref pb) ∧ B6 pb = some (.lst (l.map V.int)) ∧ Good 0 l := by
        have z0 := Int.emod_nonneg (x / 3932160) (show (5 : Int) ≠ 0 by decide)
        have z1 := Int.emod_lt_of_pos (x / 3932160) (show (0 : Int) < 5 by decide)
        generalize x / 3932160 % 5 = j at z0 z1
        have : j = 0 ∨ j = 1 ∨ j = 2 ∨ j = 3 ∨ j = 4 := by omega
        rcases this with rfl | rfl | rfl | rfl | rfl
        · exact ⟨b1, [2, 3], rfl, by k_subL, by unfold Good; decide⟩
        · exact ⟨b2, [2, 3], rfl, by k_subL, by unfold Good; decide⟩
        · exact ⟨b3, [], rfl, by k_subL, by unfold Good; decide⟩
        · exact ⟨b4, [2, 3, 4, 5], rfl, by k_subL, by unfold Good; decide⟩
        · exact ⟨b5, [3, 4, 6], rfl, by k_subL, by unfold Good; decide⟩
      obtain ⟨ps, m, hpk2, hm, gm⟩ := pick
      refine ⟨_, rfl, _, _, rfl, rfl, ⟨by decide, by decide⟩, _, _, rfl, rfl, (by k_offL), _, _, _, _, rfl, rfl, by k_subL, hpk2, ?_⟩
      refine ⟨_, rfl, _, rfl, by k_clsL, fun r nr => ?_⟩
      k_invariant "new" (nr, R1, er, hr1)
      exact q R1 r pb ps l m (e02.trans (ea1.trans (ea2.trans (ea3.trans (ea4.trans (ea5.trans (ea6.trans (eb1.trans (eb2.trans (eb3.trans (eb4.trans (eb5.trans (eb6.trans er))))))))))))) hr1 (by k_subL) (by k_subL) gl gm
    · refine ⟨_, rfl, _, rfl, by k_clsL, fun r nr => ?_⟩
      k_invariant "new" (nr, R1, er, hr1)
      exact q R1 r p1 p2 bs ss (e02.trans er) hr1 (by k_subL) (by k_subL) gb gs
/-! ### law_some: some cells of a box, ascending -/
def sp_law_some : Sp := fun vs H Q _ => ∃ (cell count h v : Int), vs = [.int cell, .int count, .int h, .int v] ∧ 0 ≤ count ∧ count ≤ 1000 ∧ 0 < h ∧ h ≤ 1000 ∧ 0 < v ∧ v ≤ 1000 ∧
  ∀ (H' : Hp) (p : Addr) (ps : List Pr), H p = none → Same H H' → Cells H' p ps → ps.Pairwise ltP → (ps.length : Int) ≤ count → (∀ x ∈ ps, 0 ≤ x.1 ∧ x.1 < h ∧ 0 ≤ x.2 ∧ x.2 < v) → Q (.ref p) H'
theorem ok_law_some (T : Txt K mg) : FnOk P w K mg base CX0 2 T.f_law_some T.d_law_some ["cell", "count", "height", "width"] sp_law_some := by
  refine T.F_law_some.ok sc_law_some (fun vs H Q E h => ?_) (fun cdv A outer s H vs Q E hr h => ?_)
  · obtain ⟨_, _, _, _, rfl, _⟩ := h
    rfl
  · obtain ⟨cell, count, h, v, rfl, c0, c1, h0, h1, v0, v1, q⟩ := h
    have hu : (A.deeper (envOfC (Str.ofString "_law_some") (defScope s_law_some) s.heap.objs.size T.f_law_some cdv)).units + 1 < cLine := by
      have := hr.units
      omega
    refine ⟨_, (pss_cons (ps_set (i := 4) sc_law_some.nd rfl (.inl rfl) (pe_callB call_abs (by rfl) T.z_abs (by decide +kernel) (pa_cons (pe_callTy call_intI (by rfl) T.z_int (by decide +kernel) (pa_cons (pv 0) pa_nil)) pa_nil)))
      (pss_cons (ps_set (i := 5) sc_law_some.nd rfl (.inl rfl) pe_dnewT)
      (pss_cons (ps_for PassesOwn.never rfl (pi_list (pe_call (ok_law_row T) (hr.mono (by decide)) (by rfl) T.g_law_row T.F_law_row.kp T.b_law_row .nil pass0 (pa_cons (pv 0) (pa_cons (pv 1) (pa_cons (pe_op op_mul (pv 2) (pv 3)) pa_nil))))) (pg_name (i := 6) sc_law_some.nd rfl (.inl rfl))
      (pss_one (ps_dput hu (pv 5) (pe_tup (pa_cons (pe_op op_fdiv (pv 6) (pv 3)) (pa_cons (pe_op op_mod (pv 6) (pv 3)) pa_nil))) pe_bl rfl)))
      (pss_one (ps_ret (pe_callB cr_sortedC (by rfl) T.z_sorted (by decide +kernel) (pa_cons (pe_lock (pe_lc (own := [("place", 7)]) (g := gName 7) (tt := tYes) rfl sc_law_some.nd (pi_keys (pv 5)) (blkOk_by (own := [("place", 7)]) (N := N_law_some) (sc := defScope s_law_some) (by decide +kernel)) (fun _ _ _ _ _ => pg_name (i := 7) sc_law_some.nd rfl (Or.inl rfl)) (fun _ _ _ _ _ => pts_nil) (fun _ _ _ _ _ => (pv 7)))) pa_nil))))))), ?_⟩
    have b0 : 0 < h * v := Int.mul_pos h0 v0
    have b1 : h * v < 1000000000 := by
      have := Int.mul_le_mul h1 v1 (by omega) (by decide)
      omega
    refine ⟨_, rfl, _, rfl, _, rfl, fun d nd => ?_⟩
    k_invariant "new" (nd, H1, e1, g1)
    refine ⟨_, rfl, _, rfl, _, rfl, _, rfl, _, _, rfl, rfl, (by k_offL), _, _, _, rfl, c0, by omega, b0, b1, fun H2 p2 xs n2 e2 g2 l2 m2 => ?_⟩
    have nd2 : d ≠ p2 := neS g1 (fun _ _ z => z) n2
    refine ⟨p2, rfl, ⟨_, lst_of g2⟩, for_list (K := K) (a := p2) (xs := xs.map V.int) (fun i σ H' => Same H H' ∧ H' p2 = some (.lst (xs.map V.int)) ∧ (∃ (x y z : Option V), σ = [some (.int cell), some (.int count), some (.int h), some (.int v), x, some (.ref d), y, z]) ∧ ∃ kvs ps, H' d = some (.dT kvs) ∧ KeysP kvs ps ∧ ps.length ≤ i ∧ ∀ x ∈ ps, 0 ≤ x.1 ∧ x.1 < h ∧ 0 ≤ x.2 ∧ x.2 < v)
      ⟨e1.trans e2, g2, ⟨_, _, _, rfl⟩, [], [], e2 _ _ g1, ⟨rfl, List.nodup_nil⟩, Nat.le_refl _, fun _ m => (by cases m)⟩ (fun i σ H' _ p => lst_of p.2.1) ?_ ?_⟩
    · rintro i z σ H' hi ⟨sm, gp, ⟨x, y, z1, rfl⟩, kvs, ps, gd, hK, lp, bd⟩
      obtain ⟨n, rfl, _, mn⟩ := item_ints hi
      have bn := m2 n mn
      have li := (List.getElem?_eq_some_iff.mp hi).1
      rw [List.length_map] at li
      refine ⟨_, rfl, _, rfl, _, rfl, _, _, rfl, rfl, ⟨v0, by omega⟩, _, rfl, _, rfl, _, _, rfl, rfl, v0, (by k_clsL), fun t nt => ?_⟩
      have ntd : t ≠ d := fun e => by
        rw [e, gd] at nt
        cases nt
      have ntp : p2 ≠ d := fun e => by
        rw [e, gd] at gp
        cases gp
      obtain ⟨qs, hQ, lq, mq⟩ := hK.put (n / v, n % v) (.bl true)
      refine ⟨d, _, rfl, DPut.t (k := keyP (n / v, n % v)) (newS nt _ _ gd) upd_same (by rw [hK.len, sizeLine_eq]; omega), mutS (sm.trans (newS nt)) nd, ?_, ⟨_, _, _, rfl⟩, _, qs, upd_same, hQ, by omega, fun x m => ?_⟩
      · rw [upd_ne ntp]
        exact newS nt _ _ gp
      · rcases (mq x).mp m with m | e
        · exact bd x m
        · rw [e]
          exact ⟨Int.ediv_nonneg bn.1 (by omega), Int.ediv_lt_of_lt_mul v0 bn.2, Int.emod_nonneg _ (by omega), Int.emod_lt_of_pos _ v0⟩
    · rintro σ H' ⟨sm, gp, ⟨x, y, z1, rfl⟩, kvs, ps, gd, hK, lp, bd⟩
      rw [List.length_map] at lp
      refine ⟨d, _, gd, trivial, fun od => ⟨_, rfl, d, od, rfl, .inr ⟨kvs, upd_same, fun D nD => lc_keysP hK upd_same nD (by rw [sizeLine_eq]; omega) ?_ fun H3 e3 g3 => ?_⟩⟩⟩
      · intro t x H' Po Pn ht hq
        exact ⟨rfl, tyesT ⟨_, rfl, hq⟩⟩
      · have gd3 : H3 d = some (.frz od (.dT kvs)) := e3 _ _ upd_same
        have s3 : Same H (upd H3 d (.dT kvs)) := mutS ((mutS sm nd).trans e3) nd
        have neD : D ≠ d := fun e => by
          rw [e, upd_same] at nD
          cases nD
        refine ⟨gd3, D, ps, rfl, g3.mut neD (fun xs e => ?_), hK.2, fun p H4 qs e4 n4 h4 c4 l4 => q H4 p qs (backS s3 n4) (s3.trans e4) h4 c4.1 (by omega) fun x m => bd x ((c4.2 x).mp m)⟩
        rw [gd3] at e
        cases e
/-! ### the law's own next generation -/
def nbq (qs : List Pr) (r c : Int) : Nat :=
  qs.count (r - 1, c - 1) + qs.count (r - 1, c) + qs.count (r - 1, c + 1) + qs.count (r, c - 1) + qs.count (r, c + 1) + qs.count (r + 1, c - 1) + qs.count (r + 1, c) + qs.count (r + 1, c + 1)
def nbr (y x : Pr) : Prop := y.1 - 1 ≤ x.1 ∧ x.1 ≤ y.1 + 1 ∧ y.2 - 1 ≤ x.2 ∧ x.2 ≤ y.2 + 1 ∧ x ≠ y
theorem nbq_nb {qs : List Pr} (nd : qs.Nodup) (r c : Int) : nbq qs r c = nb (memL qs) r c := by
  have e : ∀ p : Pr, qs.count p = (memL qs p.1 p.2).toNat := fun p => by
    unfold memL
    rw [List.Nodup.count nd]
    by_cases m : p ∈ qs
    · rw [if_pos m, decide_eq_true m]
      rfl
    · rw [if_neg m, decide_eq_false m]
      rfl
  unfold nbq nb
  rw [e, e, e, e, e, e, e, e]
theorem nbq_snoc (qs : List Pr) (y : Pr) (r c : Int) [Decidable (nbr y (r, c))] : nbq (qs ++ [y]) r c = nbq qs r c + if nbr y (r, c) then 1 else 0 := by
  have one : ∀ p : Pr, (qs ++ [y]).count p = qs.count p + if y = p then 1 else 0 := fun p => by
    rw [List.count_append, List.count_singleton]
    by_cases e : y = p
    · subst e
      simp
    · simp [e]
  obtain ⟨a, b⟩ := y
  unfold nbq
  rw [one, one, one, one, one, one, one, one]
  simp only [Prod.mk.injEq]
  by_cases h : nbr (a, b) (r, c)
  · rw [if_pos h]
    obtain ⟨h1, h2, h3, h4, h5⟩ := h
    have h5 : ¬ (r = a ∧ c = b) := fun z => h5 (Prod.ext z.1 z.2)
    dsimp only at h1 h2 h3 h4
    have c1 : a = r - 1 ∨ a = r ∨ a = r + 1 := by omega
    have c2 : b = c - 1 ∨ b = c ∨ b = c + 1 := by omega
    rcases c1 with e1 | e1 | e1 <;> rcases c2 with e2 | e2 | e2 <;> first
      | (exfalso; omega)
      | ((repeat (first | rw [if_neg (by omega)] | rw [if_pos (by omega)])); omega)
  · rw [if_neg h]
    have off : ∀ i j : Int, r - 1 ≤ i → i ≤ r + 1 → c - 1 ≤ j → j ≤ c + 1 → ¬ (i = r ∧ j = c) → ¬ (a = i ∧ b = j) := fun i j h1 h2 h3 h4 h5 h6 => h ⟨by dsimp only; omega, by dsimp only; omega, by dsimp only; omega, by dsimp only; omega, fun z => h5 (by
      have z1 : r = a := congrArg Prod.fst z
      have z2 : c = b := congrArg Prod.snd z
      omega)⟩
    rw [if_neg (off _ _ (by omega) (by omega) (by omega) (by omega) (by omega)), if_neg (off _ _ (by omega) (by omega) (by omega) (by omega) (by omega)), if_neg (off _ _ (by omega) (by omega) (by omega) (by omega) (by omega)), if_neg (off _ _ (by omega) (by omega) (by omega) (by omega) (by omega)),
      if_neg (off _ _ (by omega) (by omega) (by omega) (by omega) (by omega)), if_neg (off _ _ (by omega) (by omega) (by omega) (by omega) (by omega)), if_neg (off _ _ (by omega) (by omega) (by omega) (by omega) (by omega)), if_neg (off _ _ (by omega) (by omega) (by omega) (by omega) (by omega))]
    omega
end
end My
namespace My
open PySem PySem.Spec PyProof.Rows L2 Vx
open TL
local macro_rules | `(tactic| k_invariant "new" ($n, $H:ident, $e:ident, $h:ident)) => `(tactic| (generalize hE : upd _ _ _ = $H; obtain ⟨$e:ident, $h:ident⟩ := gen_e hE $n; clear hE))
local macro_rules | `(tactic| k_places) => `(tactic| first
  | assumption
  | exact lst_of (by assumption)
  | exact tup_of (by assumption)
  | (refine getS (by assumption) ?_; k_places)
  | (refine Same.seq (by assumption) ?_; k_places)
  | (refine tupS (by assumption) ?_; k_places)
  | (refine lst_of ?_; k_places)
  | (refine tup_of ?_; k_places))
local macro_rules | `(tactic| k_subL) => `(tactic| first
  | k_places
  | solve_by_elim (maxDepth := 10) [getS, lst_of, tup_of, Same.seq, tupS])
local macro_rules | `(tactic| k_offL) => `(tactic| first
  | (show (0 : Int) < _; first | omega | decide)
  | (refine ⟨?_, ?_⟩ <;> first | omega | decide)
  | exact .inr ⟨by decide, by decide⟩
  | exact .inl ⟨by decide, by decide⟩
  | exact .inl ⟨by omega, by omega⟩
  | omega)
local macro_rules | `(tactic| k_clsL) => `(tactic| exact Nat.le_of_ble_eq_true rfl)
local macro_rules | `(tactic| k_upd) => `(tactic| simp only [L2.start, List.map_cons, List.map_nil, List.length_cons, List.length_nil, List.replicate_succ, List.replicate_zero, List.cons_append, List.nil_append, List.set_cons_zero, List.set_cons_succ])
section
variable {P : Program} {w : World} {K : PySem.W.Frag} {mg : Str → Option Value} {base : Heap}
theorem nbq_zero {qs : List Pr} {x : Pr} (h : ∀ y ∈ qs, ¬ nbr y x) : nbq qs x.1 x.2 = 0 := by
  have z : ∀ p : Pr, nbr p x → qs.count p = 0 := fun p hp => List.count_eq_zero.mpr fun m => h p m hp
  obtain ⟨r, c⟩ := x
  have ne : ∀ i j : Int, ¬ (i = r ∧ j = c) → ((r, c) : Pr) ≠ (i, j) := fun i j h e => h ⟨(congrArg Prod.fst e).symm, (congrArg Prod.snd e).symm⟩
  have q : ∀ i j : Int, r - 1 ≤ i → i ≤ r + 1 → c - 1 ≤ j → j ≤ c + 1 → ¬ (i = r ∧ j = c) → qs.count ((i, j) : Pr) = 0 := fun i j a1 a2 a3 a4 a5 =>
    z (i, j) ⟨by dsimp only; omega, by dsimp only; omega, by dsimp only; omega, by dsimp only; omega, ne i j a5⟩
  unfold nbq
  dsimp only
  rw [q _ _ (by omega) (by omega) (by omega) (by omega) (by omega), q _ _ (by omega) (by omega) (by omega) (by omega) (by omega), q _ _ (by omega) (by omega) (by omega) (by omega) (by omega), q _ _ (by omega) (by omega) (by omega) (by omega) (by omega),
    q _ _ (by omega) (by omega) (by omega) (by omega) (by omega), q _ _ (by omega) (by omega) (by omega) (by omega) (by omega), q _ _ (by omega) (by omega) (by omega) (by omega) (by omega), q _ _ (by omega) (by omega) (by omega) (by omega) (by omega)]
theorem cnt_get {ks : List Pr} {g : Pr → Nat} {x : Pr} (h : x ∉ ks → g x = 0) : (if x ∈ ks then some (V.int ((g x : Nat) : Int)) else none).getD (.int 0) = .int ((g x : Nat) : Int) := by
  by_cases m : x ∈ ks
  · rw [if_pos m]
    rfl
  · rw [if_neg m, h m]
    rfl
theorem three {r : Int} {a : Nat} {v : V} (h : [V.int (r - 1), .int r, .int (r + 1)][a]? = some v) : v = .int (r - 1 + (a : Int)) ∧ a < 3 := by
  match a, h with
  | 0, h => exact ⟨(Option.some.inj h).symm.trans (by rw [show r - 1 + ((0 : Nat) : Int) = r - 1 by omega]), by decide⟩
  | 1, h => exact ⟨(Option.some.inj h).symm.trans (by rw [show r - 1 + ((1 : Nat) : Int) = r by omega]), by decide⟩
  | 2, h => exact ⟨(Option.some.inj h).symm.trans (by rw [show r - 1 + ((2 : Nat) : Int) = r + 1 by omega]), by decide⟩
  | _ + 3, h => cases h
theorem neT {i j : Int} (h : (!decide (V.int i = V.int j)) = true) : ¬ i = j := fun e => by
  rw [e] at h
  simp at h
theorem neF {i j : Int} (h : ¬ (!decide (V.int i = V.int j)) = true) : i = j := by
  simp at h
  exact h
def doneB (a b : Nat) (y x : Pr) : Prop := nbr y x ∧ (x.1 < y.1 - 1 + (a : Int) ∨ (x.1 = y.1 - 1 + (a : Int) ∧ x.2 < y.2 - 1 + (b : Int)))
instance (y x : Pr) : Decidable (nbr y x) := inferInstanceAs (Decidable (_ ∧ _))
instance (a b : Nat) (y x : Pr) : Decidable (doneB a b y x) := inferInstanceAs (Decidable (_ ∧ _))
def sp_law_next : Sp := fun vs H Q _ => ∃ (l lb ls : Addr) (ps : List Pr) (bs ss : List Int), vs = [.ref l, .ref lb, .ref ls] ∧ Cells H l ps ∧ H lb = some (.lst (bs.map V.int)) ∧ H ls = some (.lst (ss.map V.int)) ∧ (∀ b ∈ bs, 1 ≤ b ∧ b ≤ 8) ∧ ps.length < 100000 ∧
  ∀ (H' : Hp) (p : Addr) (qs : List Pr), H p = none → Same H H' → Cells H' p qs → qs.Pairwise ltP → (∀ x, x ∈ qs ↔ stepL bs ss (memL ps) x.1 x.2 = true) → Q (.ref p) H'
theorem ok_law_next (T : Txt K mg) : FnOk P w K mg base CX0 1 T.f_law_next T.d_law_next ["cells", "births", "survival"] sp_law_next := by
  refine T.F_law_next.ok sc_law_next (fun vs H Q E h => ?_) (fun cdv A outer s H vs Q E hr h => ?_)
  · obtain ⟨_, _, _, _, _, _, rfl, _⟩ := h
    rfl
  · obtain ⟨l, lb, ls, ps, bs, ss, rfl, hC, hB, hS, hb, few, q⟩ := h
    have hu : (A.deeper (envOfC (Str.ofString "_law_next") (defScope s_law_next) s.heap.objs.size T.f_law_next cdv)).units + 1 < cLine := by
      have := hr.units
      omega
    refine ⟨_, (pss_cons (ps_set (i := 3) sc_law_next.nd rfl (.inl rfl) pe_dnewT)
      (pss_cons (ps_set (i := 4) sc_law_next.nd rfl (.inl rfl) pe_dnewT)
      (pss_cons (ps_for PassesOwn.never rfl (pi_list (pv 0)) (pg_tupK (K := K) (n := 2) rfl rfl (pgs_cons (pg_name (i := 5) sc_law_next.nd rfl (.inl rfl)) (pgs_cons (pg_name (i := 6) sc_law_next.nd rfl (.inl rfl)) pgs_nil)))
      (pss_one (ps_dput hu (pv 4) (pe_tup (pa_cons (pv 5) (pa_cons (pv 6) pa_nil))) pe_bl rfl)))
      (pss_cons (ps_lock (ps_for PassesOwn.never rfl (pi_keys (pv 4)) (pg_tupK (K := K) (n := 2) rfl rfl (pgs_cons (pg_name (i := 5) sc_law_next.nd rfl (.inl rfl)) (pgs_cons (pg_name (i := 6) sc_law_next.nd rfl (.inl rfl)) pgs_nil)))
      (pss_cons (ps_dput hu (pv 3) (pe_tup (pa_cons (pv 5) (pa_cons (pv 6) pa_nil))) (pe_dget2 hu (pv 3) (pe_tup (pa_cons (pv 5) (pa_cons (pv 6) pa_nil))) pe_int ⟨rfl, rfl, rfl, rfl⟩) rfl)
      (pss_one (ps_for PassesOwn.never rfl (pi_list (pe_lst (pa_cons (pe_op op_sub (pv 5) pe_int) (pa_cons (pv 5) (pa_cons (pe_op op_add (pv 5) pe_int) pa_nil))))) (pg_name (i := 7) sc_law_next.nd rfl (.inl rfl))
      (pss_one (ps_for PassesOwn.never rfl (pi_list (pe_lst (pa_cons (pe_op op_sub (pv 6) pe_int) (pa_cons (pv 6) (pa_cons (pe_op op_add (pv 6) pe_int) pa_nil))))) (pg_name (i := 8) sc_law_next.nd rfl (.inl rfl))
      (pss_one (ps_if (PW.pt (pw_or (pt_cmpR op_ne (pv 7) (pv 5) (nomark _)) (pw_or1 (pt_cmpR op_ne (pv 8) (pv 6) (nomark _)))))
      (pss_one (ps_dput hu (pv 3) (pe_tup (pa_cons (pv 7) (pa_cons (pv 8) pa_nil))) (pe_op op_add (pe_dget2 hu (pv 3) (pe_tup (pa_cons (pv 7) (pa_cons (pv 8) pa_nil))) pe_int ⟨rfl, rfl, rfl, rfl⟩) pe_int) rfl))
      pss_nil)))))))))
      (pss_cons (ps_set (i := 9) sc_law_next.nd rfl (.inl rfl) (pe_lst pa_nil))
      (pss_cons (ps_lock (ps_for PassesOwn.never rfl (pi_keys (pv 3)) (pg_name (i := 10) sc_law_next.nd rfl (.inl rfl))
      (pss_one (ps_if (PW.pt (pw_or (PW.pt (pw_and (pt_cmp (pc_din hu (pv 10) (pv 4))) (pw_and1 (pt_cmpR op_in_seq (pe_dget hu (pv 3) (pv 10) (fun _ _ => rfl)) (pv 2) rfl)))) (pw_or1 (PW.pt (pw_and (pt_cmp (pc_dnotin hu (pv 10) (pv 4))) (pw_and1 (pt_cmpR op_in_seq (pe_dget hu (pv 3) (pv 10) (fun _ _ => rfl)) (pv 1) rfl)))))))
      (pss_one (ps_expr (pe_bm PySem.F.plainAttrs_list PySem.F.slot_list_append PySem.F.type_list_append mt_append (pv 9) (pa_cons (pv 10) pa_nil))))
      pss_nil))))
      (pss_one (ps_ret (pe_callB cr_sortedC (by rfl) T.z_sorted (by decide +kernel) (pa_cons (pv 9) pa_nil)))))))))), ?_⟩
    k_upd
    refine fun cd ncd => ?_
    k_invariant "new" (ncd, H1, e1, g1)
    k_upd
    refine fun ad nad => ?_
    k_invariant "new" (nad, H2, e2, g2)
    k_upd
    have ncad : cd ≠ ad := ne_of_none g1 nad
    have g1 := e2 _ _ g1
    obtain ⟨ts, hl, ht, ets⟩ := id hC
    have lts : ts.length = ps.length := by rw [← ets, List.length_map]
    have s02 := e1.trans e2
    refine ⟨_, rfl, l, rfl, ⟨_, lst_of (s02 _ _ hl)⟩, ?_⟩
    refine for_list (K := K) (a := l) (xs := ts.map fun t => V.ref t.1) (fun i σ H' => Same H1 H' ∧ (∃ x5 x6 : Option V, σ = [some (.ref l), some (.ref lb), some (.ref ls), some (.ref cd), some (.ref ad), x5, x6, none, none, none, none]) ∧
      ∃ qs, Dct H' ad qs (fun _ => .bl true) ∧ (∀ x, x ∈ qs ↔ x ∈ ps.take i) ∧ qs.length ≤ i)
      ⟨e2, ⟨_, _, rfl⟩, [], Dct.new _ g2, fun x => by simp, Nat.le_refl _⟩ (fun i σ H' _ p => lst_of (p.1 _ _ (e1 _ _ hl))) ?_ ?_
    · rintro i x σ H' hi ⟨sm, ⟨x5, x6, rfl⟩, qs, hD, mem, lq⟩
      obtain ⟨t, mt, rfl, hx⟩ := item_cells (H := H') hi rfl
      rw [ets] at hx
      have li : i < ps.length := (List.getElem?_eq_some_iff.mp hx).1
      have ht' := sm _ _ (e1 _ _ (ht t mt))
      refine ⟨t.1, _, rfl, tup_of ht', rfl, _, _, rfl, _, _, rfl, rfl, ?_⟩
      k_upd
      refine ⟨_, rfl, _, rfl, _, rfl, (by k_clsL), fun p4 n4 => ?_⟩
      k_invariant "new" (n4, H4, e4, g4)
      obtain ⟨H5, dp, pa⟩ := (hD.up e4).dput (x := t.2) (by rw [sizeLine_eq]; omega) g4 (.bl true)
      refine ⟨ad, H5, rfl, dp, pa.mut (sm.trans e4) nad, ⟨_, _, rfl⟩, addK qs t.2, pa.1.congr fun y _ => ?_, fun x => ?_, Nat.le_trans addK_len (Nat.add_le_add_right lq 1)⟩
      · unfold setG
        by_cases e : y = t.2
        · rw [if_pos e]
        · rw [if_neg e]
      · rw [mem_addK, mem, take_next hx, List.mem_append, List.mem_singleton]
    rintro σ H3 ⟨s13, ⟨x5, x6, rfl⟩, qs, hD, memq, lq⟩
    rw [List.length_map] at lq
    rw [List.length_map, List.take_of_length_le (by omega)] at memq
    have ndq : qs.Nodup := hD.choose_spec.2.2
    obtain ⟨kvs, gad, hm⟩ := hD
    have g1 := s13 _ _ (show H1 cd = _ from by assumption)
    refine ⟨ad, _, gad, trivial, fun od => ⟨_, rfl, ad, od, rfl, .inr ⟨kvs, upd_same, ?_⟩⟩⟩
    have h0 : Same H (upd H3 ad (.frz od (.dT kvs))) := mutS (e1.trans s13) (backS e1 nad)
    have h1 : upd H3 ad (.frz od (.dT kvs)) ad = some (.frz od (.dT kvs)) := upd_same
    have h2 : upd H3 ad (.frz od (.dT kvs)) cd = some (.dT []) := by rw [upd_ne ncad]; exact g1
    generalize upd H3 ad (.frz od (.dT kvs)) = Hf at h0 h1 h2 ⊢
    refine for_it walk_keysT (fun i σ H' => Same H H' ∧ H' ad = some (.frz od (.dT kvs)) ∧ (∃ x5 x6 x7 x8 : Option V, σ = [some (.ref l), some (.ref lb), some (.ref ls), some (.ref cd), some (.ref ad), x5, x6, x7, x8, none, none]) ∧
        ∃ ks, Dct H' cd ks (fun x => .int ((nbq (qs.take i) x.1 x.2 : Nat) : Int)) ∧ (∀ x, x ∈ ks ↔ ∃ y ∈ qs.take i, x = y ∨ nbr y x) ∧ ks.length ≤ 10 * i)
      ⟨h0, h1, ⟨_, _, _, _, rfl⟩, [], Dct.new _ h2, fun x => by simp, Nat.le_refl _⟩ (fun i σ H' _ p => p.2.1) ?_ ?_
    · rintro i x σ H2 H4 hi ⟨sm, had, ⟨x5, x6, x7, x8, rfl⟩, ks, hK, mk, lk⟩ ⟨rfl, k, v, q0, e, rfl, hq0⟩
      obtain ⟨y, hy, rfl, rfl⟩ := hm.at e
      have li : i < qs.length := (List.getElem?_eq_some_iff.mp hy).1
      obtain ⟨r, c⟩ := y
      have hq0 : _ = some (HO.tup [.int r, .int c]) := hq0
      refine ⟨q0, _, rfl, tup_of hq0, rfl, _, _, rfl, _, _, rfl, rfl, ?_⟩
      k_upd
      refine ⟨_, rfl, cd, rfl, hK.isD, _, rfl, _, rfl, (by k_clsL), fun p4 n4 => ?_⟩
      k_invariant "new" (n4, H5, e5, g5)
      refine ⟨_, (hK.up e5).dget (x := (r, c)) g5, ?_⟩
      rw [cnt_get (x := (r, c)) (g := fun x => nbq (qs.take i) x.1 x.2) fun nm => nbq_zero fun z mz nz => nm ((mk _).mpr ⟨z, mz, .inr nz⟩)]
      refine ⟨_, rfl, _, rfl, _, rfl, (by k_clsL), fun p6 n6 => ?_⟩
      k_invariant "new" (n6, H6, e6, g6)
      obtain ⟨H7, dp7, pa7⟩ := (hK.up (e5.trans e6)).dput (x := (r, c)) (by rw [sizeLine_eq]; omega) g6 (.int ((nbq (qs.take i) r c : Nat) : Int))
      have s7 := pa7.mut (sm.trans (e5.trans e6)) ncd
      refine ⟨cd, H7, rfl, dp7, ?_⟩
      have k7 : Dct H7 cd (addK ks (r, c)) (fun x => .int ((nbq (qs.take i) x.1 x.2 + (if doneB 0 0 (r, c) x then 1 else 0) : Nat) : Int)) := pa7.1.congr fun x m => by
        have n0 : ¬ doneB 0 0 (r, c) x := fun z => by
          obtain ⟨⟨a1, a2, a3, a4, a5⟩, b1⟩ := z
          dsimp only at a1 a2 a3 a4 b1
          omega
        rw [if_neg n0]
        unfold setG
        by_cases e : x = (r, c)
        · rw [if_pos e, e]
          rfl
        · rw [if_neg e]
          rfl
      have m7 : ∀ x, x ∈ addK ks (r, c) ↔ (∃ y ∈ qs.take i, x = y ∨ nbr y x) ∨ x = (r, c) ∨ doneB 0 0 (r, c) x := fun x => by
        rw [mem_addK, mk]
        refine ⟨fun z => z.elim .inl fun z => .inr (.inl z), fun z => z.elim .inl fun z => z.elim .inr fun z => ?_⟩
        obtain ⟨⟨a1, a2, a3, a4, a5⟩, b1⟩ := z
        dsimp only at a1 a2 a3 a4 b1
        omega
      have ad7 : H7 ad = some (.frz od (.dT kvs)) := by
        rw [pa7.2 ad fun e => ncad e.symm]
        exact e6 _ _ (e5 _ _ had)
      k_upd
      refine ⟨_, rfl, _, _, rfl, rfl, _, rfl, _, rfl, _, _, rfl, rfl, (by k_clsL), fun li1 nli1 => ?_⟩
      have ncl : li1 ≠ cd := k7.ne nli1
      k_invariant "new" (nli1, H8, e8, g8)
      have ad8 := e8 _ _ ad7
      have k8 := k7.up e8
      have l8 : (addK ks (r, c)).length ≤ 10 * i + 1 := Nat.le_trans addK_len (by omega)
      refine ⟨li1, rfl, ⟨_, lst_of g8⟩, ?_⟩
      refine for_list (K := K) (a := li1) (xs := [V.int (r - 1), .int r, .int (r + 1)]) (fun a σ H' => Same H H' ∧ H' ad = some (.frz od (.dT kvs)) ∧ H' li1 = some (.lst [.int (r - 1), .int r, .int (r + 1)]) ∧
          (∃ x7 x8 : Option V, σ = [some (.ref l), some (.ref lb), some (.ref ls), some (.ref cd), some (.ref ad), some (.int r), some (.int c), x7, x8, none, none]) ∧
          ∃ ks', Dct H' cd ks' (fun x => .int ((nbq (qs.take i) x.1 x.2 + (if doneB a 0 (r, c) x then 1 else 0) : Nat) : Int)) ∧ (∀ x, x ∈ ks' ↔ (∃ y ∈ qs.take i, x = y ∨ nbr y x) ∨ x = (r, c) ∨ doneB a 0 (r, c) x) ∧ ks'.length ≤ 10 * i + 1 + 3 * a)
        ⟨s7.trans e8, ad8, g8, ⟨_, _, rfl⟩, _, k8, m7, l8⟩ (fun a σ H' _ p => lst_of p.2.2.1) ?_ ?_
      · rintro a v σ H9 ha ⟨s9, ad9, g9, ⟨x7, x8, rfl⟩, ks9, k9, m9, l9⟩
        obtain ⟨rfl, a3⟩ := three ha
        k_upd
        refine ⟨_, rfl, _, _, rfl, rfl, _, rfl, _, rfl, _, _, rfl, rfl, (by k_clsL), fun li2 nli2 => ?_⟩
        k_invariant "new" (nli2, H10, e10, g10)
        have nl2 : li2 ≠ cd := k9.ne nli2
        refine ⟨li2, rfl, ⟨_, lst_of g10⟩, ?_⟩
        refine for_list (K := K) (a := li2) (xs := [V.int (c - 1), .int c, .int (c + 1)]) (fun b σ H' => Same H H' ∧ H' ad = some (.frz od (.dT kvs)) ∧ H' li1 = some (.lst [.int (r - 1), .int r, .int (r + 1)]) ∧ H' li2 = some (.lst [.int (c - 1), .int c, .int (c + 1)]) ∧
            (∃ x8 : Option V, σ = [some (.ref l), some (.ref lb), some (.ref ls), some (.ref cd), some (.ref ad), some (.int r), some (.int c), some (.int (r - 1 + (a : Int))), x8, none, none]) ∧
            ∃ ks', Dct H' cd ks' (fun x => .int ((nbq (qs.take i) x.1 x.2 + (if doneB a b (r, c) x then 1 else 0) : Nat) : Int)) ∧ (∀ x, x ∈ ks' ↔ (∃ y ∈ qs.take i, x = y ∨ nbr y x) ∨ x = (r, c) ∨ doneB a b (r, c) x) ∧ ks'.length ≤ 10 * i + 1 + 3 * a + b)
          ⟨s9.trans e10, e10 _ _ ad9, e10 _ _ g9, g10, ⟨_, rfl⟩, _, k9.up e10, m9, l9⟩ (fun b σ H' _ p => lst_of p.2.2.2.1) ?_ ?_
        · rintro b v σ H11 hb' ⟨s11, ad11, g11, g12, ⟨x8, rfl⟩, ks11, k11, m11, l11⟩
          obtain ⟨rfl, b3⟩ := three hb'
          k_upd
          refine ⟨_, rfl, _, rfl, rfl, _, rfl, ite2 (fun c1 => iteT ?_) (fun c1 => ⟨_, rfl, _, rfl, rfl, _, rfl, ite2 (fun c2 => ?_) (fun c2 => ?_)⟩)⟩
          rotate_left 2
          · have z1 := neF c1
            have z2 := neF c2
            have same : ∀ x, doneB a (b + 1) (r, c) x ↔ doneB a b (r, c) x := fun x => by
              unfold doneB nbr
              dsimp only
              refine ⟨fun ⟨h, h2⟩ => ⟨h, ?_⟩, fun ⟨h, h2⟩ => ⟨h, ?_⟩⟩
              · rcases h2 with h2 | ⟨h2, h3⟩
                · exact .inl h2
                · have n3 : ¬ x.2 = c - 1 + (b : Int) := fun e => h.2.2.2.2 (Prod.ext (by dsimp only; omega) (by dsimp only; omega))
                  exact .inr ⟨h2, by omega⟩
              · rcases h2 with h2 | ⟨h2, h3⟩
                · exact .inl h2
                · exact .inr ⟨h2, by omega⟩
            refine ⟨s11, ad11, g11, g12, ⟨_, rfl⟩, ks11, k11.congr fun x _ => ?_, fun x => ?_, by omega⟩
            · simp only [same]
            · rw [m11, same]
          all_goals
            have hne : ¬ (r - 1 + (a : Int) = r ∧ c - 1 + (b : Int) = c) := by
              first
                | exact fun z => neT c1 z.1
                | exact fun z => neT c2 z.2
            have nbx : nbr (r, c) (r - 1 + (a : Int), c - 1 + (b : Int)) := ⟨by dsimp only; omega, by dsimp only; omega, by dsimp only; omega, by dsimp only; omega, fun e => hne ⟨congrArg Prod.fst e, congrArg Prod.snd e⟩⟩
            have nd0 : ¬ doneB a b (r, c) (r - 1 + (a : Int), c - 1 + (b : Int)) := fun z => by
              obtain ⟨_, z⟩ := z
              dsimp only at z
              omega
            have step : ∀ x, doneB a (b + 1) (r, c) x ↔ doneB a b (r, c) x ∨ x = (r - 1 + (a : Int), c - 1 + (b : Int)) := fun x => by
              constructor
              · rintro ⟨h, h2⟩
                rcases h2 with h2 | ⟨h2, h3⟩
                · exact .inl ⟨h, .inl h2⟩
                · by_cases e : x.2 = c - 1 + (b : Int)
                  · exact .inr (Prod.ext h2 e)
                  · exact .inl ⟨h, .inr ⟨h2, by dsimp only at h3 ⊢; omega⟩⟩
              · rintro (⟨h, h2⟩ | e)
                · refine ⟨h, ?_⟩
                  rcases h2 with h2 | ⟨h2, h3⟩
                  · exact .inl h2
                  · exact .inr ⟨h2, by omega⟩
                · rw [e]
                  exact ⟨nbx, .inr ⟨rfl, by dsimp only; omega⟩⟩
            refine ⟨_, rfl, cd, rfl, k11.isD, _, rfl, _, rfl, (by k_clsL), fun p12 n12 => ?_⟩
            k_invariant "new" (n12, H12, e12, g13)
            refine ⟨_, (k11.up e12).dget (x := (r - 1 + (a : Int), c - 1 + (b : Int))) g13, ?_⟩
            rw [cnt_get (x := (r - 1 + (a : Int), c - 1 + (b : Int))) (g := fun x => nbq (qs.take i) x.1 x.2 + (if doneB a b (r, c) x then 1 else 0)) fun nm => ?_]
            rotate_left
            · dsimp only
              rw [if_neg nd0, nbq_zero (x := (r - 1 + (a : Int), c - 1 + (b : Int))) fun z mz nz => nm ((m11 _).mpr (.inl ⟨z, mz, .inr nz⟩))]
            dsimp only
            rw [if_neg nd0, Nat.add_zero]
            refine ⟨_, _, rfl, rfl, _, rfl, _, rfl, _, rfl, (by k_clsL), fun p14 n14 => ?_⟩
            k_invariant "new" (n14, H14, e14, g14)
            have fewk : ks11.length < sizeLine := by rw [sizeLine_eq]; omega
            obtain ⟨H15, dp15, pa15⟩ := (k11.up (e12.trans e14)).dput (x := (r - 1 + (a : Int), c - 1 + (b : Int))) fewk g14 (.int ((nbq (qs.take i) (r - 1 + (a : Int)) (c - 1 + (b : Int)) : Nat) + 1 : Int))
            have off : ∀ (p : Addr) (o : HO), H11 p = some o → p ≠ cd → H15 p = some o := fun p o e n => by
              rw [pa15.2 p n]
              exact e14 _ _ (e12 _ _ e)
            refine ⟨cd, H15, rfl, dp15, pa15.mut (s11.trans (e12.trans e14)) ncd, off _ _ ad11 (fun e => ncad e.symm), off _ _ g11 ncl, off _ _ g12 nl2, ⟨_, rfl⟩, addK ks11 (r - 1 + (a : Int), c - 1 + (b : Int)), pa15.1.congr fun x _ => ?_, fun x => ?_, ?_⟩
            · unfold setG
              by_cases e : x = (r - 1 + (a : Int), c - 1 + (b : Int))
              · rw [if_pos e, if_pos ((step x).mpr (.inr e)), e]
                rfl
              · rw [if_neg e]
                have : doneB a (b + 1) (r, c) x ↔ doneB a b (r, c) x := (step x).trans ⟨fun z => z.elim id fun z => absurd z e, .inl⟩
                simp only [this]
            · rw [mem_addK, m11, step]
              constructor
              · rintro ((h | h | h) | h)
                · exact .inl h
                · exact .inr (.inl h)
                · exact .inr (.inr (.inl h))
                · exact .inr (.inr (.inr h))
              · rintro (h | h | h | h)
                · exact .inl (.inl h)
                · exact .inl (.inr (.inl h))
                · exact .inl (.inr (.inr h))
                · exact .inr h
            · have := addK_len (ps := ks11) (x := (r - 1 + (a : Int), c - 1 + (b : Int)))
              omega
        · rintro σ H11 ⟨s11, ad11, g11, g12, ⟨x8, rfl⟩, ks11, k11, m11, l11⟩
          have same : ∀ x, doneB a 3 (r, c) x ↔ doneB (a + 1) 0 (r, c) x := fun x => by
            unfold doneB nbr
            dsimp only
            refine ⟨fun ⟨h, h2⟩ => ⟨h, ?_⟩, fun ⟨h, h2⟩ => ⟨h, ?_⟩⟩
            · omega
            · omega
          have k11 : Dct H11 cd ks11 (fun x => .int ((nbq (qs.take i) x.1 x.2 + (if doneB a 3 (r, c) x then 1 else 0) : Nat) : Int)) := k11
          have m11 : ∀ x, x ∈ ks11 ↔ (∃ y ∈ qs.take i, x = y ∨ nbr y x) ∨ x = (r, c) ∨ doneB a 3 (r, c) x := m11
          have l11 : ks11.length ≤ 10 * i + 1 + 3 * a + 3 := l11
          refine ⟨s11, ad11, g11, ⟨_, _, rfl⟩, ks11, k11.congr fun x _ => ?_, fun x => ?_, by omega⟩
          · simp only [same]
          · rw [m11, same]
      · rintro σ H9 ⟨s9, ad9, g9, ⟨x7, x8, rfl⟩, ks9, k9, m9, l9⟩
        have all : ∀ x, doneB 3 0 (r, c) x ↔ nbr (r, c) x := fun x => by
          unfold doneB nbr
          dsimp only
          refine ⟨fun h => h.1, fun h => ⟨h, .inl (by omega)⟩⟩
        have k9 : Dct H9 cd ks9 (fun x => .int ((nbq (qs.take i) x.1 x.2 + (if doneB 3 0 (r, c) x then 1 else 0) : Nat) : Int)) := k9
        have m9 : ∀ x, x ∈ ks9 ↔ (∃ y ∈ qs.take i, x = y ∨ nbr y x) ∨ x = (r, c) ∨ doneB 3 0 (r, c) x := m9
        have l9 : ks9.length ≤ 10 * i + 1 + 3 * 3 := l9
        refine ⟨s9, ad9, ⟨_, _, _, _, rfl⟩, ks9, k9.congr fun x _ => ?_, fun x => ?_, by omega⟩
        · rw [take_next hy, nbq_snoc]
          simp only [all]
        · rw [m9, all, take_next hy]
          constructor
          · rintro (⟨y, my, h⟩ | h | h)
            · exact ⟨y, List.mem_append.mpr (.inl my), h⟩
            · exact ⟨(r, c), List.mem_append.mpr (.inr (List.mem_singleton.mpr rfl)), .inl h⟩
            · exact ⟨(r, c), List.mem_append.mpr (.inr (List.mem_singleton.mpr rfl)), .inr h⟩
          · rintro ⟨y, my, h⟩
            rcases List.mem_append.mp my with my | my
            · exact .inl ⟨y, my, h⟩
            · rw [List.mem_singleton.mp my] at h
              exact .inr h
    · rintro σ H4 ⟨sm, had, ⟨x5, x6, x7, x8, rfl⟩, ks, hK, mk, lk⟩
      rw [hm.len] at lk
      rw [hm.len, List.take_of_length_le (Nat.le_refl _)] at hK mk
      have ndk : ks.Nodup := hK.choose_spec.2.2
      refine ⟨had, ?_⟩
      have sA : Same H (upd H4 ad (.dT kvs)) := mutS sm (backS e1 nad)
      have gA : upd H4 ad (.dT kvs) ad = some (.dT kvs) := upd_same
      have kA := hK.off (o := .dT kvs) ncad
      generalize upd H4 ad (.dT kvs) = H5 at sA gA kA ⊢
      k_upd
      refine ⟨by k_clsL, fun fl nfl => ?_⟩
      k_invariant "new" (nfl, H6, e6, g6)
      k_upd
      obtain ⟨kvc, gcd, hmc⟩ := kA.up e6
      have nfc : fl ≠ cd := fun e => by rw [e, gcd] at g6; cases g6
      have nfa : fl ≠ ad := fun e => by rw [e, e6 _ _ gA] at g6; cases g6
      refine ⟨cd, _, gcd, trivial, fun od2 => ⟨_, rfl, cd, od2, rfl, .inr ⟨kvc, upd_same, ?_⟩⟩⟩
      have b0 : Same H (upd H6 cd (.frz od2 (.dT kvc))) := mutS (sA.trans e6) ncd
      have b1 : upd H6 cd (.frz od2 (.dT kvc)) cd = some (.frz od2 (.dT kvc)) := upd_same
      have b2 : upd H6 cd (.frz od2 (.dT kvc)) ad = some (.dT kvs) := by rw [upd_ne fun e => ncad e.symm]; exact e6 _ _ gA
      have b3 : upd H6 cd (.frz od2 (.dT kvc)) fl = some (.lst []) := by rw [upd_ne nfc]; exact g6
      generalize upd H6 cd (.frz od2 (.dT kvc)) = Hg at b0 b1 b2 b3 ⊢
      have memE : ∀ x, memL ps x.1 x.2 = decide (x ∈ qs) := fun x => by
        unfold memL
        rw [Bool.eq_iff_iff, decide_eq_true_iff, decide_eq_true_iff, memq]
      have nbE : ∀ x : Pr, (nbq qs x.1 x.2 : Int) = (nb (memL ps) x.1 x.2 : Int) := fun x => by
        rw [nbq_nb ndq]
        have : memL qs = memL ps := funext fun r => funext fun c => by
          show decide ((r, c) ∈ qs) = _
          exact (memE (r, c)).symm
        rw [this]
      have nfl0 : H fl = none := backS sA nfl
      refine for_it walk_keysT (fun i σ H' => Same H H' ∧ H' cd = some (.frz od2 (.dT kvc)) ∧ H' ad = some (.dT kvs) ∧ (∃ x10 : Option V, σ = [some (.ref l), some (.ref lb), some (.ref ls), some (.ref cd), some (.ref ad), x5, x6, x7, x8, some (.ref fl), x10]) ∧
          ∃ us : List (Addr × Pr), H' fl = some (.lst (us.map fun t => V.ref t.1)) ∧ (∀ t ∈ us, H' t.1 = some (.tup [.int t.2.1, .int t.2.2])) ∧ us.map (·.2) = (ks.take i).filter fun x => stepL bs ss (memL ps) x.1 x.2)
        ⟨b0, b1, b2, ⟨_, rfl⟩, [], b3, fun _ m => (by cases m), by simp⟩ (fun i σ H' _ p => p.2.1) ?_ ?_
      · rintro i x σ H2 H7 hi ⟨sm, hcd, had, ⟨x10, rfl⟩, us, hus, htu, eus⟩ ⟨rfl, k, v, q0, e, rfl, hq0⟩
        obtain ⟨y, hy, rfl, rfl⟩ := hmc.at e
        have hq0 : _ = some (HO.tup [.int y.1, .int y.2]) := hq0
        have my := List.mem_of_getElem? hy
        have dgA := Dct.dget (H := H7) (d := ad) (g := fun _ => V.bl true) (x := y) ⟨kvs, had, hm⟩ hq0
        have dgC : DGet H7 cd (.ref q0) (some (.int ((nbq qs y.1 y.2 : Nat) : Int))) := .inr ⟨kvc, keyP y, q0, .inr ⟨od2, hcd⟩, rfl, hq0, by rw [hmc.get y, if_pos my]⟩
        have lu : us.length ≤ i := by
          have z := congrArg List.length eus
          rw [List.length_map] at z
          have := List.length_filter_le (fun x : Pr => stepL bs ss (memL ps) x.1 x.2) (ks.take i)
          rw [List.length_take] at this
          omega
        have lkc := hmc.len
        have hS' := sm _ _ hS
        have hB' := sm _ _ hB
        k_upd
        by_cases m : y ∈ qs
        · rw [if_pos m] at dgA
          have sE : stepL bs ss (memL ps) y.1 y.2 = decide ((nbq qs y.1 y.2 : Int) ∈ ss) := by
            unfold stepL
            rw [memE, if_pos (decide_eq_true m), nbE]
          refine ⟨_, rfl, _, rfl, ad, _, rfl, dgA, _, rfl, iteT ?_⟩
          refine ⟨_, rfl, _, rfl, cd, _, rfl, dgC, _, rfl, ls, _, rfl, .inl (lst_of hS'), rfl, flat_ints _, _, by rw [if_neg Bool.false_ne_true, inV_ints], ite2 (fun c => iteT ?_) (fun c => ?_)⟩
          · have sP : stepL bs ss (memL ps) y.1 y.2 = true := sE.trans c
            refine ⟨_, rfl, .inl ⟨rfl, _, lst_of hus⟩, _, rfl, _, _, _, rfl, rfl, hus, by rw [List.length_map, sizeLine_eq]; omega, ?_⟩
            have off : ∀ (b : Addr) (o : HO), H7 b = some o → (∀ xs, o ≠ .lst xs) → upd H7 fl (.lst ((us.map fun t => V.ref t.1) ++ [.ref q0])) b = some o := fun b o e ne => by
              rw [upd_ne fun z => ?_]
              · exact e
              · rw [z, hus] at e
                exact ne _ (Option.some.inj e).symm
            refine ⟨mutS sm nfl0, off _ _ hcd (fun _ z => by cases z), off _ _ had (fun _ z => by cases z), ⟨_, rfl⟩, us ++ [(q0, y)], by rw [upd_same, List.map_append]; rfl, fun t m => ?_, ?_⟩
            · rcases List.mem_append.mp m with m | m
              · exact off _ _ (htu t m) (fun _ z => by cases z)
              · rw [List.mem_singleton.mp m]
                exact off _ _ hq0 (fun _ z => by cases z)
            · rw [List.map_append, eus, take_next hy, List.filter_append, List.filter_cons, if_pos sP]
              rfl
          · have sP : stepL bs ss (memL ps) y.1 y.2 = false := by
              rw [sE]
              simpa using c
            refine ⟨_, rfl, _, rfl, ad, _, rfl, dgA, _, rfl, iteF ?_⟩
            refine iteF ?_
            refine ⟨sm, hcd, had, ⟨_, rfl⟩, us, hus, htu, ?_⟩
            rw [eus, take_next hy, List.filter_append, List.filter_cons, if_neg (by rw [sP]; decide)]
            exact (List.append_nil _).symm
        · rw [if_neg m] at dgA
          have sE : stepL bs ss (memL ps) y.1 y.2 = decide ((nbq qs y.1 y.2 : Int) ∈ bs) := by
            unfold stepL
            rw [memE, if_neg (by rw [decide_eq_false m]; decide), nbE]
          refine ⟨_, rfl, _, rfl, ad, _, rfl, dgA, _, rfl, iteF ?_⟩
          refine iteF ?_
          refine ⟨_, rfl, _, rfl, ad, _, rfl, dgA, _, rfl, iteT ?_⟩
          refine ⟨_, rfl, _, rfl, cd, _, rfl, dgC, _, rfl, lb, _, rfl, .inl (lst_of hB'), rfl, flat_ints _, _, by rw [if_neg Bool.false_ne_true, inV_ints], ite2 (fun c => ?_) (fun c => ?_)⟩
          · have sP : stepL bs ss (memL ps) y.1 y.2 = true := sE.trans c
            refine ⟨_, rfl, .inl ⟨rfl, _, lst_of hus⟩, _, rfl, _, _, _, rfl, rfl, hus, by rw [List.length_map, sizeLine_eq]; omega, ?_⟩
            have off : ∀ (b : Addr) (o : HO), H7 b = some o → (∀ xs, o ≠ .lst xs) → upd H7 fl (.lst ((us.map fun t => V.ref t.1) ++ [.ref q0])) b = some o := fun b o e ne => by
              rw [upd_ne fun z => ?_]
              · exact e
              · rw [z, hus] at e
                exact ne _ (Option.some.inj e).symm
            refine ⟨mutS sm nfl0, off _ _ hcd (fun _ z => by cases z), off _ _ had (fun _ z => by cases z), ⟨_, rfl⟩, us ++ [(q0, y)], by rw [upd_same, List.map_append]; rfl, fun t m => ?_, ?_⟩
            · rcases List.mem_append.mp m with m | m
              · exact off _ _ (htu t m) (fun _ z => by cases z)
              · rw [List.mem_singleton.mp m]
                exact off _ _ hq0 (fun _ z => by cases z)
            · rw [List.map_append, eus, take_next hy, List.filter_append, List.filter_cons, if_pos sP]
              rfl
          · have sP : stepL bs ss (memL ps) y.1 y.2 = false := by
              rw [sE]
              simpa using c
            refine ⟨sm, hcd, had, ⟨_, rfl⟩, us, hus, htu, ?_⟩
            rw [eus, take_next hy, List.filter_append, List.filter_cons, if_neg (by rw [sP]; decide)]
            exact (List.append_nil _).symm
      · rintro σ H7 ⟨sm, hcd, had, ⟨x10, rfl⟩, us, hus, htu, eus⟩
        rw [hmc.len, List.take_of_length_le (Nat.le_refl _)] at eus
        refine ⟨hcd, ?_⟩
        have sF : Same H (upd H7 cd (.dT kvc)) := mutS sm ncd
        have cF : Cells (upd H7 cd (.dT kvc)) fl (us.map (·.2)) := Cells.mut ⟨us, hus, htu, rfl⟩ nfc fun xs e => by
          rw [hcd] at e
          cases e
        have ndu : (us.map (·.2)).Nodup := by
          rw [eus]
          exact ndk.filter _
        refine ⟨_, rfl, fl, _, rfl, cF, ndu, fun p H8 rs e8 n8 c8 can l8 => q H8 p rs (backS sF n8) (sF.trans e8) c8 can.1 fun x => ?_⟩
        rw [can.2, eus, List.mem_filter]
        refine ⟨fun h => h.2, fun h => ⟨?_, h⟩⟩
        refine (mk x).mpr ?_
        by_cases m : x ∈ qs
        · exact ⟨x, m, .inl rfl⟩
        · refine Classical.byContradiction fun no => ?_
          have z := nbq_zero (qs := qs) (x := x) fun y my ny => no ⟨y, my, .inr ny⟩
          have h : stepL bs ss (memL ps) x.1 x.2 = true := h
          unfold stepL at h
          rw [memE, if_neg (by rw [decide_eq_false m]; decide), ← nbE, z] at h
          have := hb _ (of_decide_eq_true h)
          omega
end
end My
namespace My
open PySem PySem.Spec PyProof.Rows L2 Vx
open TL
local macro_rules | `(tactic| k_invariant "new" ($n, $H:ident, $e:ident, $h:ident)) => `(tactic| (generalize hE : upd _ _ _ = $H; obtain ⟨$e:ident, $h:ident⟩ := gen_e hE $n; clear hE))
local macro_rules | `(tactic| k_places) => `(tactic| first
  | assumption
  | exact lst_of (by assumption)
  | exact tup_of (by assumption)
  | (refine getS (by assumption) ?_; k_places)
  | (refine Same.seq (by assumption) ?_; k_places)
  | (refine tupS (by assumption) ?_; k_places)
  | (refine lst_of ?_; k_places)
  | (refine tup_of ?_; k_places))
local macro_rules | `(tactic| k_subL) => `(tactic| first
  | k_places
  | solve_by_elim (maxDepth := 10) [getS, lst_of, tup_of, Same.seq, tupS])
local macro_rules | `(tactic| k_offL) => `(tactic| first
  | (show (0 : Int) < _; first | omega | decide)
  | (refine ⟨?_, ?_⟩ <;> first | omega | decide)
  | exact .inr ⟨by decide, by decide⟩
  | exact .inl ⟨by decide, by decide⟩
  | exact .inl ⟨by omega, by omega⟩
  | omega)
local macro_rules | `(tactic| k_clsL) => `(tactic| exact Nat.le_of_ble_eq_true rfl)
local macro_rules | `(tactic| k_upd) => `(tactic| simp only [L2.start, List.map_cons, List.map_nil, List.length_cons, List.length_nil, List.replicate_succ, List.replicate_zero, List.cons_append, List.nil_append, List.set_cons_zero, List.set_cons_succ])
section
variable {P : Program} {w : World} {K : PySem.W.Frag} {mg : Str → Option Value} {base : Heap}
theorem lc_cellsF {K : PySem.W.Frag} {l : Addr} {ps : List Pr} {g : TG} {tt : TT} {te : TE} {vs : List Nat} {σ : L2.St} {H1 : Hp} {D : Addr} {Qd : Hp → Prop} (f : Pr → Pr) (pr : Pr → Bool) (hC : Cells H1 l ps) (nD : H1 D = none) (few : ps.length < sizeLine)
    (hs : ∀ (t : Addr) (x : Pr) (H' : Hp) (Po : V → Hp → Prop) (Pn : Hp → Prop), Same H1 H' → H' t = some (.tup [.int x.1, .int x.2]) → (pr x = true → ∀ t2, H' t2 = none → Po (.ref t2) (upd H' t2 (.tup [.int (f x).1, .int (f x).2]))) → (pr x = false → Pn H') →
      g (.ref t) (wipe σ vs) H' fun σ2 H2 => wipe σ2 vs = wipe σ vs ∧ tt σ2 H2 fun b H3 => if b = true then te σ2 H3 Po else Pn H3)
    (hd : ∀ H', Same H1 H' → Cells H' D ((ps.filter pr).map f) → Qd H') :
    ∃ W : Nat → Nat → Hp → Prop, (∃ m, W 0 m (upd H1 D (.lst []))) ∧ ∀ i m H, W i m H →
      ((Itl K l).stop i H ∧ Qd H) ∨ ((Itl K l).go i H ∧ ∃ Nx : Hp → Prop, (∀ H', Nx H' → ∃ m', m' < m ∧ W (i + 1) m' H') ∧ ∀ x H', (Itl K l).yld i H x H' → g x (wipe σ vs) H' fun σ2 H2 => wipe σ2 vs = wipe σ vs ∧ tt σ2 H2 fun b H3 =>
        if b = true then te σ2 H3 fun y H4 => ∃ acc, H4 D = some (.lst acc) ∧ acc.length < sizeLine ∧ Nx (upd H4 D (.lst (acc ++ [y]))) else Nx H3) := by
  obtain ⟨ts, hl, ht, rfl⟩ := hC
  rw [List.length_map] at few
  refine lc_list (K := K) (a := l) (xs := ts.map fun t => V.ref t.1) (fun i H' => Same H1 H' ∧ ∃ us : List (Addr × Pr), H' D = some (.lst (us.map fun t => V.ref t.1)) ∧ (∀ t ∈ us, H' t.1 = some (.tup [.int t.2.1, .int t.2.2])) ∧ us.map (·.2) = (((ts.map (·.2)).take i).filter pr).map f)
    ⟨newS nD, [], upd_same, fun _ m => (by cases m), rfl⟩ (fun i H' _ p => lst_of (p.1 _ _ hl)) ?_ ?_
  · rintro i x H' hi ⟨sm, us, h1, h2, h3⟩
    obtain ⟨t, mt, rfl, hp⟩ := item_cells (H := H') hi rfl
    have ul : us.length ≤ i := by
      have z := congrArg List.length h3
      rw [List.length_map, List.length_map] at z
      have := List.length_filter_le pr ((ts.map (·.2)).take i)
      rw [List.length_take] at this
      omega
    refine hs t.1 t.2 H' _ _ sm (sm _ _ (ht t mt)) (fun hp1 t2 n2 => ⟨us.map fun t => V.ref t.1, ?_, ?_, ?_, us ++ [(t2, f t.2)], ?_, ?_, ?_⟩) fun hp0 => ⟨sm, us, h1, h2, ?_⟩
    · exact newS n2 _ _ h1
    · rw [List.length_map]
      have := (List.getElem?_eq_some_iff.mp hi).1
      rw [List.length_map] at this
      omega
    · exact mutS (sm.trans (newS n2)) nD
    · rw [upd_same, List.map_append]
      rfl
    · have nD2 : t2 ≠ D := fun e => by
        rw [e, h1] at n2
        cases n2
      intro u m
      rcases List.mem_append.mp m with m | m
      · have z := h2 u m
        rw [upd_ne (fun e => ?_)]
        · exact newS n2 _ _ z
        · rw [e, h1] at z
          cases z
      · rw [List.mem_singleton.mp m, upd_ne nD2, upd_same]
    · rw [List.map_append, h3, take_next hp, List.filter_append, List.map_append, List.filter_cons_of_pos hp1]
      rfl
    · rw [h3, take_next hp, List.filter_append, List.filter_cons_of_neg (by rw [hp0]; decide), List.filter_nil, List.append_nil]
  · rintro H' ⟨sm, us, h1, h2, h3⟩
    refine hd H' sm ⟨us, h1, h2, ?_⟩
    rw [h3, List.length_map, List.take_of_length_le (by rw [List.length_map]; exact Nat.le_refl _)]
def inQ (l r c : Nat) (x : Pr) : Bool := (decide ((r : Int) ≤ x.1) && decide (x.1 < (r : Int) + (2 ^ l : Nat))) && (decide ((c : Int) ≤ x.2) && decide (x.2 < (c : Int) + (2 ^ l : Nat)))
theorem quarter_eq {l b r c : Nat} (hl : l < 5) (hb : b < 2 ^ 1024) (hr : r ≤ 16) (hc : c ≤ 16) : ((cellsN b).filter (inQ l r c)).map (fun x => (x.1 - (r : Int), x.2 - (c : Int))) = cellsN (cutN l b r c) := by
  have h16 := pow_le16 hl
  refine ascP_eq (pw_map (fun x y h => ?_) ((cellsN_asc b).filter _)) (cellsN_asc _) fun x => ?_
  · rw [ltP_iff] at h ⊢
    dsimp only
    omega
  · constructor
    · intro m
      obtain ⟨y, my, rfl⟩ := List.mem_map.mp m
      obtain ⟨my, q⟩ := List.mem_filter.mp my
      obtain ⟨i, mi, rfl⟩ := List.mem_map.mp my
      obtain ⟨i1, i2⟩ := mem_bitsB.mp mi
      unfold inQ at32 at q
      simp only [Bool.and_eq_true, decide_eq_true_eq] at q
      obtain ⟨⟨q1, q2⟩, q3, q4⟩ := q
      have ej : i = r * 32 + c + (i - (r * 32 + c)) := by omega
      have j1 : (i - (r * 32 + c)) / 32 = i / 32 - r := by omega
      have j2 : (i - (r * 32 + c)) % 32 = i % 32 - c := by omega
      have : ((at32 i).1 - (r : Int), (at32 i).2 - (c : Int)) = at32 (i - (r * 32 + c)) := by
        unfold at32
        dsimp only
        rw [j1, j2]
        refine Prod.ext ?_ ?_ <;> dsimp only <;> omega
      rw [this]
      refine mem_cellsN.mpr ⟨by omega, ?_⟩
      rw [cut_bit hl, ← ej, i2, j1, j2]
      generalize 2 ^ l = p at *
      simp only [Bool.true_and, Bool.and_eq_true, decide_eq_true_eq]
      omega
    · intro m
      obtain ⟨j, mj, rfl⟩ := List.mem_map.mp m
      obtain ⟨j1, j2⟩ := mem_bitsB.mp mj
      rw [cut_bit hl] at j2
      simp only [Bool.and_eq_true, decide_eq_true_eq] at j2
      obtain ⟨t, f1, f2⟩ := j2
      have i1 : r * 32 + c + j < 1024 := by
        refine Nat.lt_of_not_le fun g => ?_
        rw [Nat.testBit_lt_two_pow (Nat.lt_of_lt_of_le hb (Nat.pow_le_pow_right (by decide) g))] at t
        cases t
      refine List.mem_map.mpr ⟨at32 (r * 32 + c + j), List.mem_filter.mpr ⟨mem_cellsN.mpr ⟨i1, t⟩, ?_⟩, ?_⟩
      · unfold inQ at32
        generalize 2 ^ l = p at *
        simp only [Bool.and_eq_true, decide_eq_true_eq]
        omega
      · unfold at32
        generalize 2 ^ l = p at *
        dsimp only
        refine Prod.ext ?_ ?_ <;> dsimp only <;> omega
def inD (q : Int) (x : Pr) : Bool := (decide (q ≤ x.1) && decide (x.1 < 3 * q)) && (decide (q ≤ x.2) && decide (x.2 < 3 * q))
def midP (q : Int) (ps : List Pr) : List Pr := (ps.filter (inD q)).map (fun x => (x.1 - q, x.2 - q))
def sp_law_middle : Sp := fun vs H Q _ => ∃ (a : Addr) (ps : List Pr) (l : Nat), vs = [.ref a, .int ((l + 2 : Nat) : Int)] ∧ Cells H a ps ∧ l ≤ 40 ∧ ps.length < 100000 ∧
  ∀ (H' : Hp) (p : Addr), H p = none → Same H H' → Cells H' p (midP ((2 ^ l : Nat) : Int) ps) → Q (.ref p) H'
theorem ok_law_middle (T : Txt K mg) : FnOk P w K mg base CX0 1 T.f_law_middle T.d_law_middle ["cells", "level"] sp_law_middle := by
  refine T.F_law_middle.ok sc_law_middle (fun vs H Q E h => ?_) (fun cdv A outer s H vs Q E hr h => ?_)
  · obtain ⟨_, _, _, rfl, _⟩ := h
    rfl
  · obtain ⟨a, ps, l, rfl, hC, hl, few, q⟩ := h
    refine ⟨_, (pss_cons (ps_set (i := 2) sc_law_middle.nd rfl (.inr rfl) (pe_op op_shl pe_int (pe_op op_sub (pv 1) pe_int)))
      (pss_one (ps_ret (pe_lc (own := [("r", 3), ("c", 4)]) rfl sc_law_middle.nd (pi_list (pv 0)) (blkOk_by (own := [("r", 3), ("c", 4)]) (N := N_law_middle) (sc := defScope s_law_middle) (by decide +kernel)) (fun _ _ _ _ _ => (pg_tupK (K := K) (n := 2) rfl rfl (pgs_cons (pg_name (i := 3) sc_law_middle.nd rfl (.inl rfl)) (pgs_cons (pg_name (i := 4) sc_law_middle.nd rfl (.inl rfl)) pgs_nil)))) (fun _ _ _ _ _ => pts_one (PW.pt (pw_and (pt_chain op_le op_lt (pv 2) (pv 3) (pe_op op_mul pe_int (pv 2))) (pw_and1 (pt_chain op_le op_lt (pv 2) (pv 4) (pe_op op_mul pe_int (pv 2))))))) (fun _ _ _ _ _ => (pe_tup (pa_cons (pe_op op_sub (pv 3) (pv 2)) (pa_cons (pe_op op_sub (pv 4) (pv 2)) pa_nil)))))))), ?_⟩
    k_upd
    have hsh : (1 : Int) * 2 ^ ((((l + 2 : Nat) : Int) - 2).toNat) = ((2 ^ l : Nat) : Int) := by
      rw [show (((l + 2 : Nat) : Int) - 2).toNat = l by omega, Int.one_mul]
      exact (Int.natCast_pow 2 l).symm
    refine ⟨_, rfl, _, _, rfl, rfl, _, _, rfl, rfl, ⟨by omega, by omega, by decide⟩, ?_⟩
    dsimp only
    rw [hsh]
    have big : ((2 ^ l : Nat) : Int) ≤ 1099511627776 := by
      have : 2 ^ l ≤ 2 ^ 40 := Nat.pow_le_pow_right (by decide) hl
      have e : 2 ^ 40 = 1099511627776 := by decide
      omega
    have pos := pow_pos2 l
    refine gN_go ?_
    k_upd
    unfold midP at q
    generalize ((2 ^ l : Nat) : Int) = qr at *
    refine ⟨_, rfl, a, rfl, ⟨_, lst_of hC.choose_spec.1⟩, fun D nD => lc_cellsF (fun x => (x.1 - qr, x.2 - qr)) (inD qr) hC nD (by rw [sizeLine_eq]; omega) ?_ fun H12 e12 h12 => ?_⟩
    · intro t x H' Po Pn _ ht hp1 hp0
      refine ⟨t, _, rfl, tup_of ht, rfl, _, _, rfl, _, _, rfl, rfl, wipe2 _ 3 4 _ _, ?_⟩
      refine ⟨_, rfl, _, rfl, _, _, rfl, rfl, _, rfl, ite2 (fun c1 => ?_) (fun c1 => ?_)⟩
      · refine ⟨_, rfl, _, _, rfl, rfl, .inl ⟨by decide, by decide⟩, _, _, rfl, rfl, _, rfl, ite2 (fun c2 => ?_) (fun c2 => ?_)⟩
        · refine ⟨_, rfl, _, rfl, _, _, rfl, rfl, _, rfl, ite2 (fun c3 => ?_) (fun c3 => ?_)⟩
          · refine ⟨_, rfl, _, _, rfl, rfl, .inl ⟨by decide, by decide⟩, _, _, rfl, rfl, _, rfl, ite2 (fun c4 => ?_) (fun c4 => ?_)⟩
            · refine ⟨_, rfl, _, rfl, _, _, rfl, rfl, _, rfl, _, rfl, _, _, rfl, rfl, by k_clsL, fun t2 n2 => hp1 ?_ t2 n2⟩
              unfold inD
              rw [c1, c2, c3, c4]
              rfl
            · refine hp0 ?_
              unfold inD
              rw [c1, c2, c3, Bool.eq_false_iff.mpr c4]
              rfl
          · refine ⟨_, rfl, iteF (hp0 ?_)⟩
            unfold inD
            rw [c1, c2, Bool.eq_false_iff.mpr c3]
            rfl
        · refine hp0 ?_
          unfold inD
          rw [c1, Bool.eq_false_iff.mpr c2]
          rfl
      · refine ⟨_, rfl, iteF (hp0 ?_)⟩
        unfold inD
        rw [Bool.eq_false_iff.mpr c1]
        rfl
    · exact q H12 D nD e12 h12
theorem mid_eq {X L : Int → Int → Bool} {l : Nat} {es cs : List Pr} (h : Sub X ((2 ^ (l + 1) : Nat) : Int) ((2 ^ l : Nat) : Int) ((2 ^ l : Nat) : Int) L) (sp : Supp (l + 1) L) (pe : es.Pairwise ltP) (me : ∀ x : Pr, x ∈ es ↔ X x.1 x.2 = true) (pc : cs.Pairwise ltP) (mc : ∀ x : Pr, x ∈ cs ↔ L x.1 x.2 = true) : cs = midP ((2 ^ l : Nat) : Int) es := by
  have w2 := pow_two l
  unfold midP
  refine ascP_eq pc (pw_map (fun x y h => ?_) (pe.filter _)) fun x => ?_
  · rw [ltP_iff] at h ⊢
    dsimp only
    omega
  · rw [mc, List.mem_map]
    constructor
    · intro k
      have b := sp _ _ k
      rw [h _ _ (by omega) (by omega) (by omega) (by omega)] at k
      refine ⟨(x.1 + ((2 ^ l : Nat) : Int), x.2 + ((2 ^ l : Nat) : Int)), List.mem_filter.mpr ⟨(me _).mpr k, ?_⟩, Prod.ext (by dsimp only; omega) (by dsimp only; omega)⟩
      unfold inD
      simp only [Bool.and_eq_true, decide_eq_true_eq]
      omega
    · rintro ⟨y, my, rfl⟩
      obtain ⟨my, o⟩ := List.mem_filter.mp my
      unfold inD at o
      simp only [Bool.and_eq_true, decide_eq_true_eq] at o
      rw [h _ _ (by dsimp only; omega) (by dsimp only; omega) (by dsimp only; omega) (by dsimp only; omega)]
      dsimp only
      rw [Int.sub_add_cancel, Int.sub_add_cancel]
      exact (me y).mp my
def sp_futA (C CB CR : Addr) : Sp := fun vs H Q E => ∃ N, N ≤ 4 ∧ sp_future C CB CR N vs H Q E
theorem ok_Store_future (T : Txt K mg) : FnOk P w K mg base CX0 15 T.f_Store_future T.d_Store_future ["self", "square", "j"] (sp_futA T.C_Store T.C_Blocks T.C_Rule) :=
  ⟨fun vs H Q E ⟨N, hN, h⟩ => (ok_future (P := P) (w := w) (base := base) T N (by omega)).len vs H Q E h, fun A outer s H args us vs Q E hr h1 h2 h3 ⟨N, hN, h⟩ => ((ok_future T N (by omega)).mono (show 2 * N + 6 + 1 ≤ 15 by omega)).run A outer s H args us vs Q E hr h1 h2 h3 h⟩
end
end My
namespace My
open PySem PySem.Spec PyProof.Rows L2 Vx
open TL
local macro_rules | `(tactic| k_invariant "new" ($n, $H:ident, $e:ident, $h:ident)) => `(tactic| (generalize hE : upd _ _ _ = $H; obtain ⟨$e:ident, $h:ident⟩ := gen_e hE $n; clear hE))
local macro_rules | `(tactic| k_places) => `(tactic| first
  | assumption
  | exact lst_of (by assumption)
  | exact tup_of (by assumption)
  | (refine getS (by assumption) ?_; k_places)
  | (refine Same.seq (by assumption) ?_; k_places)
  | (refine tupS (by assumption) ?_; k_places)
  | (refine lst_of ?_; k_places)
  | (refine tup_of ?_; k_places))
local macro_rules | `(tactic| k_subL) => `(tactic| first
  | k_places
  | solve_by_elim (maxDepth := 10) [getS, lst_of, tup_of, Same.seq, tupS])
local macro_rules | `(tactic| k_offL) => `(tactic| first
  | (show (0 : Int) < _; first | omega | decide)
  | (refine ⟨?_, ?_⟩ <;> first | omega | decide)
  | exact .inr ⟨by decide, by decide⟩
  | exact .inl ⟨by decide, by decide⟩
  | exact .inl ⟨by omega, by omega⟩
  | omega)
local macro_rules | `(tactic| k_clsL) => `(tactic| exact Nat.le_of_ble_eq_true rfl)
local macro_rules | `(tactic| k_upd) => `(tactic| simp only [L2.start, List.map_cons, List.map_nil, List.length_cons, List.length_nil, List.replicate_succ, List.replicate_zero, List.cons_append, List.nil_append, List.set_cons_zero, List.set_cons_succ])
section
variable {P : Program} {w : World} {K : PySem.W.Frag} {mg : Str → Option Value} {base : Heap}
theorem cells_hide {C CB CR : Addr} {bs ss : List Int} {H : Hp} {A : GA} {G : List Ent} {S : Nat} {p : Addr} {ps : List Pr} (h : GS C CB CR bs ss H A G S) (c : Cells H p ps) (n : p ∉ A.M) : Cells (hide A.M H) p ps := by
  obtain ⟨ts, h1, h2, h3⟩ := c
  exact ⟨ts, by rw [hide_out n]; exact h1, fun t m => by rw [hide_out (h.outT (h2 t m))]; exact h2 t m, h3⟩
theorem step_mem {bs ss : List Int} {L : Int → Int → Bool} {k : Nat} {es es2 : List Pr} (me : ∀ y : Pr, y ∈ es ↔ genL bs ss L k y.1 y.2 = true) (m2 : ∀ x : Pr, x ∈ es2 ↔ stepL bs ss (memL es) x.1 x.2 = true) (y : Pr) : y ∈ es2 ↔ genL bs ss L (k + 1) y.1 y.2 = true := by
  rw [m2, stepL_congr (M := genL bs ss L k) fun r c => ?_]
  · exact Iff.rfl
  · unfold memL
    rw [Bool.eq_iff_iff, decide_eq_true_iff, me]
def gensP (p : Nat) : Nat := if p = 0 then 0 else 2 ^ (p - 1)
def sp_law (K : PySem.W.Frag) : Sp := fun vs H Q _ => ∃ (a : Addr) (ns : List Int), vs = [.ref a] ∧ SqL K H a (ns.map V.int) ∧ ns.length ≤ 63 ∧ ∀ H', Q (.bl true) H'
theorem ok_law (T : Txt K mg) : FnOk P w K mg base CX0 40 T.f_law T.d_law ["script"] (sp_law K) := by
  refine T.F_law.ok sc_law (fun vs H Q E h => ?_) (fun cdv A outer s H vs Q E hr h => ?_)
  · obtain ⟨a, ns, rfl, _⟩ := h
    rfl
  · obtain ⟨a, ns, rfl, hS, hlen, q⟩ := h
    refine ⟨_, (pss_cons (ps_asg (pe_call (ok_law_numbers T) (hr.mono (by decide)) (by rfl) T.g_law_numbers T.F_law_numbers.kp T.b_law_numbers .nil pass0 (pa_cons (pe_call (ok_law_cell T) (hr.mono (by decide)) (by rfl) T.g_law_cell T.F_law_cell.kp T.b_law_cell .nil pass0 (pa_cons (pv 0) (pa_cons pe_int pa_nil))) pa_nil)) (pg_tupK (K := K) (n := 2) rfl rfl (pgs_cons (pg_name (i := 1) sc_law.nd rfl (.inl rfl)) (pgs_cons (pg_name (i := 2) sc_law.nd rfl (.inl rfl)) pgs_nil))))
      (pss_cons (ps_set (i := 3) sc_law.nd rfl (.inl rfl) (pe_make T.M_Store (ok_Store_init T) (hr.mono (by decide)) rfl T.g_Store T.b_Store_init .nil pass0 (pa_cons (pe_make T.M_Rule (ok_Rule_init T) (hr.mono (by decide)) rfl T.g_Rule T.b_Rule_init .nil pass0 (pa_cons (pv 1) (pa_cons (pv 2) pa_nil))) pa_nil)))
      (pss_cons (ps_for PassesOwn.never rfl (pi_range1 (by rfl) T.z_range (pa_cons (pe_op op_add pe_int (pe_op op_mod (pe_call (ok_law_cell T) (hr.mono (by decide)) (by rfl) T.g_law_cell T.F_law_cell.kp T.b_law_cell .nil pass0 (pa_cons (pv 0) (pa_cons pe_int pa_nil))) pe_int)) pa_nil)) (pg_name (i := 4) sc_law.nd rfl (.inl rfl))
      (pss_cons (ps_set (i := 5) sc_law.nd rfl (.inl rfl) (pe_callB call_abs (by rfl) T.z_abs (by decide +kernel) (pa_cons (pe_call (ok_law_cell T) (hr.mono (by decide)) (by rfl) T.g_law_cell T.F_law_cell.kp T.b_law_cell .nil pass0 (pa_cons (pv 0) (pa_cons (pe_op op_add pe_int (pv 4)) pa_nil))) pa_nil)))
      (pss_cons (ps_set (i := 6) sc_law.nd rfl (.inl rfl) (pe_ix ix_list (pe_lst (pa_cons pe_int (pa_cons pe_int (pa_cons pe_int (pa_cons pe_int (pa_cons pe_int (pa_cons pe_int (pa_cons pe_int (pa_cons pe_int pa_nil))))))))) (pe_op op_mod (pv 5) pe_int) (fun _ _ => rfl)))
      (pss_cons (ps_mid (ps_if (pt_cmpR op_eq (pe_op op_mod (pe_op op_fdiv (pv 5) pe_int) pe_int) pe_int (nomark _))
      (pss_one (ps_set (i := 6) sc_law.nd rfl (.inl rfl) pe_int))
      pss_nil))
      (pss_cons (ps_set (i := 7) sc_law.nd rfl (.inl rfl) (pe_call (ok_law_some T) (hr.mono (by decide)) (by rfl) T.g_law_some T.F_law_some.kp T.b_law_some .nil pass0 (pa_cons (pe_op op_fdiv (pv 5) pe_int) (pa_cons (pe_op op_add pe_int (pe_op op_mod (pe_op op_fdiv (pv 5) pe_int) pe_int)) (pa_cons (pe_op op_shl pe_int (pv 6)) (pa_cons (pe_op op_shl pe_int (pv 6)) pa_nil))))))
      (pss_cons (ps_set (i := 8) sc_law.nd rfl (.inl rfl) (pe_meth (pv 3) T.cl_Store T.m_Store_built (ok_Store_built T) (hr.mono (by decide)) T.b_Store_built .nil pass0 (pa_cons (pv 7) (pa_cons (pv 6) pa_nil))))
      (pss_cons (ps_if (pt_cmpR (op_neD hr.units) (pe_meth (pv 3) T.cl_Store T.m_Store_cells (ok_Store_cells T) (hr.mono (by decide)) T.b_Store_cells .nil pass0 (pa_cons (pe_meth (pv 3) T.cl_Store T.m_Store_middle (ok_Store_middle T) (hr.mono (by decide)) T.b_Store_middle .nil pass0 (pa_cons (pv 8) pa_nil)) pa_nil)) (pe_call (ok_law_middle T) (hr.mono (by decide)) (by rfl) T.g_law_middle T.F_law_middle.kp T.b_law_middle .nil pass0 (pa_cons (pv 7) (pa_cons (pv 6) pa_nil))) (nomark _))
      (pss_one (ps_ret pe_bl))
      pss_nil)
      (pss_cons (ps_set (i := 9) sc_law.nd rfl (.inl rfl) (pe_op op_mod (pe_op op_fdiv (pv 5) pe_int) (pe_op op_sub (pv 6) pe_int)))
      (pss_cons (ps_set (i := 10) sc_law.nd rfl (.inl rfl) (pe_meth (pv 3) T.cl_Store T.m_Store_future (ok_Store_future T) (hr.mono (by decide)) T.b_Store_future .nil pass0 (pa_cons (pv 8) (pa_cons (pv 9) pa_nil))))
      (pss_cons (ps_set (i := 11) sc_law.nd rfl (.inl rfl) (pv 7))
      (pss_one (ps_for PassesOwn.never rfl (pi_range1 (by rfl) T.z_range (pa_cons (pe_callB (call_min2 rfl) (by rfl) T.z_min (by decide +kernel) (pa_cons (pe_op op_sub (pv 6) pe_int) (pa_cons pe_int pa_nil))) pa_nil)) (pg_name (i := 12) sc_law.nd rfl (.inl rfl))
      (pss_cons (ps_mid (ps_if (pt_cmpR op_gt (pv 12) pe_int (nomark _))
      (pss_one (ps_for PassesOwn.never rfl (pi_range1 (by rfl) T.z_range (pa_cons (pe_op op_shl pe_int (pe_op op_sub (pv 12) pe_int)) pa_nil)) (pg_name (i := 13) sc_law.nd rfl (.inl rfl))
      (pss_one (ps_set (i := 11) sc_law.nd rfl (.inl rfl) (pe_call (ok_law_next T) (hr.mono (by decide)) (by rfl) T.g_law_next T.F_law_next.kp T.b_law_next .nil pass0 (pa_cons (pv 11) (pa_cons (pv 1) (pa_cons (pv 2) pa_nil))))))))
      (pss_one (ps_set (i := 11) sc_law.nd rfl (.inl rfl) (pe_call (ok_law_next T) (hr.mono (by decide)) (by rfl) T.g_law_next T.F_law_next.kp T.b_law_next .nil pass0 (pa_cons (pv 11) (pa_cons (pv 1) (pa_cons (pv 2) pa_nil))))))))
      (pss_cons (ps_set (i := 14) sc_law.nd rfl (.inl rfl) (pe_meth (pv 3) T.cl_Store T.m_Store_future (ok_Store_future T) (hr.mono (by decide)) T.b_Store_future .nil pass0 (pa_cons (pv 8) (pa_cons (pv 12) pa_nil))))
      (pss_cons (ps_if (PW.pt (pw_or (pt_cmpR op_ne (pe_meth (pv 3) T.cl_Store T.m_Store_level (ok_Store_level T) (hr.mono (by decide)) T.b_Store_level .nil pass0 (pa_cons (pv 14) pa_nil)) (pe_op op_sub (pv 6) pe_int) (nomark _)) (pw_or1 (pt_cmpR (op_neD hr.units) (pe_meth (pv 3) T.cl_Store T.m_Store_cells (ok_Store_cells T) (hr.mono (by decide)) T.b_Store_cells .nil pass0 (pa_cons (pv 14) pa_nil)) (pe_call (ok_law_middle T) (hr.mono (by decide)) (by rfl) T.g_law_middle T.F_law_middle.kp T.b_law_middle .nil pass0 (pa_cons (pv 11) (pa_cons (pv 6) pa_nil))) (nomark _)))))
      (pss_one (ps_ret pe_bl))
      pss_nil)
      (pss_one (ps_if (PW.pt (pw_or (PW.pt (pw_and (pt_cmpR op_eq (pv 12) (pv 9) (nomark _)) (pw_and1 (pt_cmpR op_ne (pv 14) (pv 10) (nomark _))))) (pw_or1 (pt_cmpR op_ne (pe_meth (pv 3) T.cl_Store T.m_Store_future (ok_Store_future T) (hr.mono (by decide)) T.b_Store_future .nil pass0 (pa_cons (pv 8) (pa_cons (pv 12) pa_nil))) (pv 14) (nomark _)))))
      (pss_one (ps_ret pe_bl))
      pss_nil)))))))))))))))))
      (pss_one (ps_ret pe_bl))))), ?_⟩
    k_upd
    refine ⟨_, rfl, a, ns, 0, rfl, hS, ?_⟩
    generalize cellOf ns 0 = z0
    refine ⟨z0, rfl, fun H1 p1 pb pss bs ss e1 g1 gb gs' good1 good0 => ?_⟩
    refine ⟨p1, _, rfl, tup_of g1, rfl, _, _, rfl, _, _, rfl, rfl, ?_⟩
    k_upd
    refine ⟨_, rfl, _, rfl, ?_⟩
    intro r dx nx nd nex
    refine ⟨H1, r, pb, pss, dx, bs, ss, rfl, madeS nx nd, nx, upd_same, lst_of gb, lst_of gs', by have := good1.2.2; omega, by have := good0.2.2; omega, fun H2 bs' ss' e2 ra c1 c2 => ⟨rfl, ?_⟩⟩
    have eb : bs' = bs := canon_eq c1 good1.1 fun _ => Iff.rfl
    have es : ss' = ss := canon_eq c2 good0.1 fun _ => Iff.rfl
    subst eb es
    have hb := good1.2.1
    have hss := good0.2.1
    intro st dx2 nst ndst nest
    refine ⟨H2, st, r, dx2, bs', ss', rfl, madeS nst ndst, nst, upd_same, ra, fun H3 S G0 est mn fr hS3 => ⟨rfl, ?_⟩⟩
    subst est
    have hA3 : SqL K (hide S.M H3) a (ns.map V.int) := ((e1.trans e2).trans fr).seq hS
    have gb3 := fr _ _ (e2 _ _ gb)
    have gs3 := fr _ _ (e2 _ _ gs')
    clear hS ra c1 c2 gb gs' g1 e1 e2 fr nx nd nst ndst nex nest good1 good0
    k_upd
    have q1 := Int.emod_nonneg (cellOf ns 1) (show (3 : Int) ≠ 0 by decide)
    have q2 := Int.emod_lt_of_pos (cellOf ns 1) (show (0 : Int) < 3 by decide)
    refine ⟨_, rfl, a, ns, 1, rfl, hide_le.seq hA3, _, _, rfl, rfl, (show (0 : Int) < 3 by decide), _, _, rfl, rfl, _, rfl, by omega, by omega, for_range (lo := 0) (n := (1 + cellOf ns 1 % 3).toNat) (fun i σ H' => ∃ G', Gg T.C_Store T.C_Blocks T.C_Rule bs' ss' S (250000 * i) H3 G0 2 H' G' ∧ ∃ x4 x5 x6 x7 x8 x9 x10 x11 x12 x13 x14 : Option V, σ = [some (.ref a), some (.ref pb), some (.ref pss), some (.ref S.st), x4, x5, x6, x7, x8, x9, x10, x11, x12, x13, x14])
      ⟨G0, Gg.refl _ hS3, _, _, _, _, _, _, _, _, _, _, _, rfl⟩ ?_ ?_⟩
    · rintro i σ H4 hi ⟨G4, g4, x4, x5, x6, x7, x8, x9, x10, x11, x12, x13, x14, rfl⟩
      have i3 : i < 3 := by omega
      have hA4 := g4.fr.seq hA3
      refine ⟨_, rfl, _, rfl, _, _, rfl, rfl, a, ns, 2 + i, ?_, hide_le.seq hA4, _, rfl, ?_⟩
      · show [V.ref a, V.int (2 + (0 + (i : Int)))] = [V.ref a, V.int ((2 + i : Nat) : Int)]
        rw [show (2 + (0 + (i : Int))) = ((2 + i : Nat) : Int) by omega]
      generalize cellOf ns (2 + i) = z
      obtain ⟨x, ex, x0⟩ : ∃ x : Int, x = (if z < 0 then -z else z) ∧ 0 ≤ x := ⟨_, rfl, by split <;> omega⟩
      rw [← ex]
      refine gN_go ?_
      k_upd
      refine ⟨(by k_clsL), fun lp nlp => ?_⟩
      k_invariant "new" (nlp, H5, e5, h5)
      obtain ⟨lv0, lv2, lv5, atl⟩ : ∃ lv : Nat, 2 ≤ lv ∧ lv ≤ 5 ∧ atI [V.int 2, .int 2, .int 2, .int 3, .int 3, .int 3, .int 4, .int 5] (x % 8) = some (.int (lv : Int)) := by
        have a1 := Int.emod_nonneg x (show (8 : Int) ≠ 0 by decide)
        have a2 := Int.emod_lt_of_pos x (show (0 : Int) < 8 by decide)
        obtain ⟨y, ey⟩ := Int.eq_ofNat_of_zero_le a1
        rw [ey]
        have y8 : y < 8 := by omega
        match y, y8 with
        | 0, _ => exact ⟨2, by decide, by decide, rfl⟩
        | 1, _ => exact ⟨2, by decide, by decide, rfl⟩
        | 2, _ => exact ⟨2, by decide, by decide, rfl⟩
        | 3, _ => exact ⟨3, by decide, by decide, rfl⟩
        | 4, _ => exact ⟨3, by decide, by decide, rfl⟩
        | 5, _ => exact ⟨3, by decide, by decide, rfl⟩
        | 6, _ => exact ⟨4, by decide, by decide, rfl⟩
        | 7, _ => exact ⟨5, by decide, by decide, rfl⟩
      have g5 := g4.same e5
      refine ⟨_, rfl, _, _, rfl, rfl, (show (0 : Int) < 8 by decide), _, _, _, _, rfl, rfl, lst_of h5, atl, ?_⟩
      refine gN_go ?_
      k_upd
      refine ⟨fun σ' H' => H' = H5 ∧ ∃ l : Nat, l ≤ 4 ∧ σ' = [some (.ref a), some (.ref pb), some (.ref pss), some (.ref S.st), some (.int (0 + (i : Int))), some (.int x), some (.int ((l + 2 : Nat) : Int)), x7, x8, x9, x10, x11, x12, x13, x14], ?_, ?_⟩
      · refine ⟨_, rfl, _, _, rfl, rfl, (by k_offL), _, _, rfl, rfl, (show (0 : Int) < 60 by decide), rfl, _, rfl, ite2 (fun c => ?_) (fun c => ?_)⟩
        · refine gN_go ?_
          k_upd
          exact ⟨trivial, 4, Nat.le_refl _, rfl⟩
        · exact ⟨rfl, lv0 - 2, by omega, by rw [show lv0 - 2 + 2 = lv0 by omega]⟩
      rintro σ H' ⟨rfl, l, l4, rfl⟩
      have hsh : (1 : Int) * 2 ^ ((((l + 2 : Nat)) : Int).toNat) = ((2 ^ (l + 2) : Nat) : Int) := by
        rw [Int.toNat_natCast, Int.one_mul]
        exact (Int.natCast_pow 2 (l + 2)).symm
      have p64 : 2 ^ (l + 2) ≤ 64 := Nat.le_trans (Nat.pow_le_pow_right (by decide) (show l + 2 ≤ 6 by omega)) (by decide)
      have p1 : 0 < 2 ^ (l + 2) := Nat.pow_pos (by decide)
      have m1 := Int.emod_nonneg (x / 160) (show (40 : Int) ≠ 0 by decide)
      have m2 := Int.emod_lt_of_pos (x / 160) (show (0 : Int) < 40 by decide)
      refine ⟨_, rfl, _, _, rfl, rfl, (by k_offL), _, rfl, _, _, rfl, rfl, (by k_offL), _, _, rfl, rfl, (show (0 : Int) < 40 by decide), _, _, rfl, rfl, _, rfl, _, _, rfl, rfl, ⟨by omega, by omega, by decide⟩, _, rfl, _, _, rfl, rfl, ⟨by omega, by omega, by decide⟩, ?_⟩
      dsimp only
      rw [hsh]
      refine ⟨_, _, _, _, rfl, by omega, by omega, by omega, by omega, by omega, by omega, fun H6 pc ps npc e6 hC6 pw6 lps6 box6 => ?_⟩
      refine gN_go ?_
      k_upd
      have g6 := g5.same e6
      have pcM := g5.st.off npc
      have hC6h : Cells (hide S.M H6) pc ps := cells_hide g6.st hC6 pcM
      obtain ⟨Z6, eZ6⟩ : ∃ Z6, Z6 = 2 + 250000 * i := ⟨_, rfl⟩
      have st6 := g6.st
      rw [← eZ6] at st6
      obtain ⟨dx6, ru6, ho6⟩ := st6.ob
      refine ⟨_, rfl, S.st, _, _, rfl, ho6, rfl, _, rfl, _, rfl, S, G4, Z6, l + 2, pc, ps, bs', ss', rfl, mn, st6, hC6, by omega, box6, by omega, by omega, fun H7 G7 n u g7 en ul uL => ?_⟩
      refine gN_go ?_
      k_upd
      obtain ⟨dx7, ru7, ho7⟩ := g7.st.ob
      refine ⟨_, rfl, S.st, _, _, rfl, ho7, rfl, _, rfl, S.st, _, _, rfl, ho7, rfl, _, rfl, S, G7, Z6 + 200000, l, n, u, bs', ss', rfl, g7.st, by omega, en, ul, fun H8 G8 m e' g8 em el' sb => ?_⟩
      refine ⟨S, G8, Z6 + 200000 + 17, m, e', bs', ss', rfl, g8.st, em, by omega, fun H9 pm cm nm e9 hCm pwm memm => ?_⟩
      have g9 := (g7.trans g8).same e9
      have hC9h : Cells (hide S.M H9) pc ps := hC6h.up g9.fr
      refine ⟨_, rfl, _, rfl, pc, ps, l, rfl, hC9h.up hide_le, by omega, by omega, fun H10 pd nd e10 hCd => ?_⟩
      have sp' := (g8.st.wf _ _ em).supp
      rw [el'] at sp'
      have due := mid_eq sb sp' pw6 (fun y => by rw [uL]; unfold memL; rw [decide_eq_true_iff]) pwm memm
      refine ⟨_, _, dp_cells (hCm.up e10), dp_cells hCd, shaped_cells _, shaped_cells _, _, ne_cells due, iteF ?_⟩
      have g10 := g9.same e10
      have jm := Int.emod_nonneg (x / 6400) (show (((l + 2 : Nat) : Int) - 1) ≠ 0 by omega)
      have jl := Int.emod_lt_of_pos (x / 6400) (show (0 : Int) < (((l + 2 : Nat) : Int) - 1) by omega)
      obtain ⟨j, ej⟩ := Int.eq_ofNat_of_zero_le jm
      refine ⟨_, rfl, _, _, rfl, rfl, (by k_offL), _, rfl, _, _, rfl, rfl, _, _, rfl, rfl, (show (0 : Int) < (((l + 2 : Nat) : Int) - 1) by omega), ?_⟩
      dsimp only
      rw [ej] at jl ⊢
      refine gN_go ?_
      k_upd
      have cN : costN (l + 2 - 5) ≤ 233 := by
        have c5 : l + 2 - 5 = 0 ∨ l + 2 - 5 = 1 := by omega
        rcases c5 with c5 | c5 <;> rw [c5] <;> decide
      have en10 := preG g8.pre en
      obtain ⟨dx10, ru10, ho10⟩ := g10.st.ob
      obtain ⟨N, eN⟩ : ∃ N, N = l + 2 - 5 := ⟨_, rfl⟩
      rw [← eN] at cN
      refine ⟨_, rfl, S.st, _, _, rfl, ho10, rfl, _, rfl, _, rfl, N, by omega, S, G8, Z6 + (200000 + 17), n, j, u, bs', ss', rfl, mn, g10.st, hb, hss, by omega, en10, by omega, by omega, fun H11 G11 mf g11 ff ak => ?_⟩
      refine gN_go ?_
      k_upd
      refine ⟨_, rfl, ?_⟩
      refine gN_go ?_
      k_upd
      obtain ⟨np, enp, np4, npl⟩ : ∃ np : Nat, (if (4 : Int) < ((l + 2 : Nat) : Int) - 1 then (4 : Int) else ((l + 2 : Nat) : Int) - 1) = (np : Int) ∧ np ≤ 4 ∧ np ≤ l + 1 := by
        split
        · exact ⟨4, rfl, by decide, by omega⟩
        · exact ⟨l + 1, by omega, by omega, Nat.le_refl _⟩
      obtain ⟨Z11, eZ11⟩ : ∃ Z11, Z11 = Z6 + (200000 + 17) + (costN N + 1) := ⟨_, rfl⟩
      have st11 := g11.st
      rw [← eZ11] at st11
      have g1011 := g10.trans g11
      have hC11h : Cells (hide S.M H11) pc ps := (hC9h.up (hide_up e10)).up g11.fr
      have gb11 := g1011.fr _ _ (((g6.fr.trans fun _ _ e => e)) _ _ gb3)
      have gs11 := g1011.fr _ _ (((g6.fr.trans fun _ _ e => e)) _ _ gs3)
      have en11 := preG g11.pre en10
      have L0 : ∀ r c, memL ps r c = true → (0 : Int) ≤ r ∧ r ≤ 63 ∧ (0 : Int) ≤ c ∧ c ≤ 63 := fun r c z => by
        have := box6 (r, c) (of_decide_eq_true z)
        dsimp only at this
        omega
      have few : ∀ (k : Nat) (es : List Pr), k ≤ 8 → es.Pairwise ltP → (∀ y : Pr, y ∈ es ↔ genL bs' ss' (memL ps) k y.1 y.2 = true) → es.length < 100000 := fun k es hk pw me => by
        have := box_lenN (lo := -8) (w := 80) (nodup_lt pw) fun y m => by
          have := gen_box hb L0 k y.1 y.2 ((me y).mp m)
          omega
        omega
      have e2l : l + 2 = u.l := ul.symm
      refine ⟨_, rfl, _, _, rfl, rfl, _, _, rfl, ?_⟩
      rw [enp]
      refine ⟨_, rfl, by omega, by omega, for_range (lo := 0) (n := ((np : Nat) : Int).toNat) (fun p σ H' => ∃ G', Gg T.C_Store T.C_Blocks T.C_Rule bs' ss' S (600 * p) H11 G11 Z11 H' G' ∧ ∃ (pn : Addr) (es : List Pr) (x12 x13 x14 : Option V), σ = [some (.ref a), some (.ref pb), some (.ref pss), some (.ref S.st), some (.int (0 + (i : Int))), some (.int x), some (.int ((l + 2 : Nat) : Int)), some (.ref pc), some (.int (n : Int)), some (.int (j : Int)), some (.int (mf : Int)), some (.ref pn), x12, x13, x14] ∧
          Cells (hide S.M H') pn es ∧ es.Pairwise ltP ∧ ∀ y : Pr, y ∈ es ↔ genL bs' ss' (memL ps) (gensP p) y.1 y.2 = true)
        ⟨G11, Gg.refl _ st11, pc, ps, _, _, _, rfl, hC11h, pw6, fun y => decide_eq_true_iff.symm⟩ ?_ ?_⟩
      · rintro p σ H12 hp ⟨G12, g12, pn, es, x12, x13, x14, rfl, hE, pwE, memE⟩
        rw [Int.toNat_natCast] at hp
        rw [Int.zero_add]
        refine gN_go ?_
        k_upd
        have frA := g12.fr
        have gb12 := frA _ _ gb11
        have gs12 := frA _ _ gs11
        refine ⟨fun σ' H' => Same H12 H' ∧ ∃ (pn : Addr) (es : List Pr) (x13 : Option V), σ' = [some (.ref a), some (.ref pb), some (.ref pss), some (.ref S.st), some (.int (0 + (i : Int))), some (.int x), some (.int ((l + 2 : Nat) : Int)), some (.ref pc), some (.int (n : Int)), some (.int (j : Int)), some (.int (mf : Int)), some (.ref pn), some (.int (p : Int)), x13, x14] ∧
          Cells (hide S.M H') pn es ∧ es.Pairwise ltP ∧ ∀ y : Pr, y ∈ es ↔ genL bs' ss' (memL ps) (2 ^ p) y.1 y.2 = true, ?_, ?_⟩
        · refine ⟨_, rfl, _, _, rfl, rfl, _, rfl, ite2 (fun c => ?_) (fun c => ?_)⟩
          · have c := of_decide_eq_true c
            have hp1 : (1 : Int) * 2 ^ (((p : Int) - 1).toNat) = ((2 ^ (p - 1) : Nat) : Int) := by
              rw [show ((p : Int) - 1).toNat = p - 1 by omega, Int.one_mul]
              exact (Int.natCast_pow 2 (p - 1)).symm
            have p8 : 2 ^ (p - 1) ≤ 4 := Nat.le_trans (Nat.pow_le_pow_right (by decide) (show p - 1 ≤ 2 by omega)) (by decide)
            have gp : gensP p = 2 ^ (p - 1) := if_neg (by omega)
            rw [gp] at memE
            have hb8 : (1 : Int) * 2 ^ (((p : Int) - 1).toNat) ≤ 8 ∧ 0 ≤ (1 : Int) * 2 ^ (((p : Int) - 1).toNat) := by
              rw [hp1]
              omega
            have hn : ((1 : Int) * 2 ^ (((p : Int) - 1).toNat)).toNat = 2 ^ (p - 1) := by rw [hp1, Int.toNat_natCast]
            refine ⟨_, rfl, _, _, rfl, rfl, _, _, rfl, rfl, ⟨by omega, by omega, by decide⟩, _, rfl, by omega, by omega, for_range (lo := 0) (n := ((1 : Int) * 2 ^ (((p : Int) - 1).toNat)).toNat) (fun tt σ H' => Same H12 H' ∧ ∃ (pn : Addr) (es : List Pr) (x13 : Option V), σ = [some (.ref a), some (.ref pb), some (.ref pss), some (.ref S.st), some (.int (0 + (i : Int))), some (.int x), some (.int ((l + 2 : Nat) : Int)), some (.ref pc), some (.int (n : Int)), some (.int (j : Int)), some (.int (mf : Int)), some (.ref pn), some (.int (p : Int)), x13, x14] ∧
                Cells (hide S.M H') pn es ∧ es.Pairwise ltP ∧ ∀ y : Pr, y ∈ es ↔ genL bs' ss' (memL ps) (2 ^ (p - 1) + tt) y.1 y.2 = true)
              ⟨fun _ _ e => e, pn, es, _, rfl, hE, pwE, memE⟩ ?_ ?_⟩
            · rintro tt σ H13 htt ⟨sm, px, es, x13, rfl, hE, pwE, memE⟩
              rw [hn] at htt
              refine ⟨_, rfl, _, rfl, _, rfl, px, pb, pss, es, bs', ss', rfl, hE.up hide_le, hide_le _ _ (hide_up sm _ _ gb12), hide_le _ _ (hide_up sm _ _ gs12), hb, few _ _ (by omega) pwE memE, fun H14 p14 es2 n14 e14 h14 pw14 mem14 => ?_⟩
              have gg14 := g12.same (sm.trans e14)
              exact ⟨sm.trans e14, p14, es2, _, rfl, cells_hide gg14.st h14 ((g12.same sm).st.off n14), pw14, step_mem memE mem14⟩
            · rintro σ H13 ⟨sm, px, es, x13, rfl, hE, pwE, memE⟩
              rw [hn, show 2 ^ (p - 1) + 2 ^ (p - 1) = 2 ^ p by
                rw [← Nat.mul_two, ← Nat.pow_succ, Nat.succ_eq_add_one, show p - 1 + 1 = p by omega]] at memE
              exact ⟨sm, px, es, _, rfl, hE, pwE, memE⟩
          · have c := of_decide_eq_false (Bool.eq_false_iff.mpr c)
            obtain rfl : p = 0 := by omega
            refine ⟨_, rfl, _, rfl, _, rfl, pn, pb, pss, es, bs', ss', rfl, hE.up hide_le, hide_le _ _ gb12, hide_le _ _ gs12, hb, few _ _ (by show 0 ≤ 8; decide) pwE memE, fun H14 p14 es2 n14 e14 h14 pw14 mem14 => ?_⟩
            refine gN_go ?_
            k_upd
            have gg14 := g12.same e14
            exact ⟨e14, p14, es2, _, rfl, cells_hide gg14.st h14 (g12.st.off n14), pw14, step_mem memE mem14⟩
        · rintro σ H13 ⟨sm, px, es, x13, rfl, hE, pwE, memE⟩
          have p8 : 2 ^ p ≤ 8 := Nat.le_trans (Nat.pow_le_pow_right (by decide) (show p ≤ 3 by omega)) (by decide)
          have lE := few _ _ p8 pwE memE
          have g13 := g12.same sm
          have en13 := preG g13.pre en11
          obtain ⟨dx13, ru13, ho13⟩ := g13.st.ob
          refine ⟨_, rfl, S.st, _, _, rfl, ho13, rfl, _, rfl, _, rfl, N, by omega, S, G12, Z11 + 600 * p, n, p, u, bs', ss', rfl, mn, g13.st, hb, hss, by omega, en13, by omega, by omega, fun H14 G14 mt g14 ft at' => ?_⟩
          refine gN_go ?_
          k_upd
          obtain ⟨v, v', f1, f2, f3, f4, f5⟩ := ft
          rw [preG g14.pre en13] at f1
          obtain rfl := Option.some.inj f1
          rw [ul] at f5
          have spv := (g14.st.wf _ _ f2).supp
          rw [show v'.l = l + 1 by omega] at spv
          obtain ⟨dx14, ru14, ho14⟩ := g14.st.ob
          have hE14 := hE.up g14.fr
          have hv : V.int ((v'.l : Nat) : Int) = V.int (((l + 2 : Nat) : Int) - 1) := congrArg V.int (by omega)
          refine ⟨_, rfl, S.st, _, _, rfl, ho14, rfl, _, rfl, S, G14, _, mt, v', bs', ss', rfl, g14.st, f2, _, rfl, _, _, rfl, rfl, rfl, false, congrArg V.bl (by rw [decide_eq_true hv]; rfl), iteF ?_⟩
          refine ⟨_, rfl, S.st, _, _, rfl, ho14, rfl, _, rfl, S, G14, _, mt, v', bs', ss', rfl, g14.st, f2, by omega, fun H15 pm cm nm e15 hCm pwm memm => ?_⟩
          refine ⟨_, rfl, _, rfl, px, es, l, rfl, (hE14.up (hide_up e15)).up hide_le, by omega, lE, fun H16 pd nd e16 hCd => ?_⟩
          have due2 := mid_eq (X := genL bs' ss' (memL ps) (2 ^ p)) (fun r c a1 a2 a3 a4 => by
            have := f5 r c a1 a2 a3 a4
            rw [uL] at this
            exact this) spv pwE memE pwm memm
          refine ⟨_, _, dp_cells (hCm.up e16), dp_cells hCd, shaped_cells _, shaped_cells _, _, ne_cells due2, iteF ?_⟩
          have g16 := g14.same (e15.trans e16)
          have at16 : Asked S H16 n p mt := at'.keep (FKeep.of (k := 0) (G' := []) fun o z => (e15.trans e16) _ _ z)
          obtain ⟨dx16, ru16, ho16⟩ := g16.st.ob
          have en16 := preG g14.pre en13
          have gp1 : gensP (p + 1) = 2 ^ p := if_neg (Nat.succ_ne_zero p)
          by_cases epj : p = j
          · subst epj
            have em : mf = mt := by
              have k1 := ak.keep ((g13.trans g16).fk)
              exact k1.one at16
            refine ⟨_, rfl, _, rfl, rfl, true, congrArg V.bl (decide_eq_true rfl), iteT ?_⟩
            refine ⟨_, rfl, _, rfl, rfl, false, congrArg V.bl (by rw [em, decide_eq_true rfl]; rfl), iteF ?_⟩
            refine ⟨_, rfl, S.st, _, _, rfl, ho16, rfl, _, rfl, _, rfl, N, by omega, S, G14, Z11 + 600 * p + (costN N + 1), n, p, u, bs', ss', rfl, mn, g16.st, hb, hss, by omega, en16, by omega, by omega, fun H17 G17 mt2 g17 ft2 at2 => ?_⟩
            obtain rfl : mt = mt2 := (at16.keep g17.fk).one at2
            refine ⟨_, rfl, rfl, false, congrArg V.bl (by rw [decide_eq_true rfl]; rfl), iteF ?_⟩
            refine ⟨G17, (g13.trans (g16.trans g17)).more (by omega), px, es, _, _, _, rfl, (hE14.up (hide_up (e15.trans e16))).up g17.fr, pwE, ?_⟩
            rw [gp1]
            exact memE
          · refine ⟨_, rfl, _, rfl, rfl, false, congrArg V.bl (decide_eq_false fun z => epj (by injection z with z; omega)), iteF ?_⟩
            refine ⟨_, rfl, S.st, _, _, rfl, ho16, rfl, _, rfl, _, rfl, N, by omega, S, G14, Z11 + 600 * p + (costN N + 1), n, p, u, bs', ss', rfl, mn, g16.st, hb, hss, by omega, en16, by omega, by omega, fun H17 G17 mt2 g17 ft2 at2 => ?_⟩
            obtain rfl : mt = mt2 := (at16.keep g17.fk).one at2
            refine ⟨_, rfl, rfl, false, congrArg V.bl (by rw [decide_eq_true rfl]; rfl), iteF ?_⟩
            refine ⟨G17, (g13.trans (g16.trans g17)).more (by omega), px, es, _, _, _, rfl, (hE14.up (hide_up (e15.trans e16))).up g17.fr, pwE, ?_⟩
            rw [gp1]
            exact memE
      · rintro σ H12 ⟨G12, g12, pn, es, x12, x13, x14, rfl, hE, pwE, memE⟩
        rw [Int.toNat_natCast] at g12
        refine ⟨G12, ?_, _, _, _, _, _, _, _, _, _, _, _, rfl⟩
        subst eZ11 eZ6
        exact (g6.trans (g10.trans (g11.trans g12))).more (by omega)
    · rintro σ H4 ⟨G4, g4, x4, x5, x6, x7, x8, x9, x10, x11, x12, x13, x14, rfl⟩
      exact q _
end
end My
namespace My
open PySem PySem.Spec PyProof.Rows L2 Vx
theorem all_mk {l : PySem.W.OpenLaw} {w : World} {K : PySem.W.Frag} {h : Heap} {mg : Str → Option Value} {fa : Addr} (X : K.In h) (G : h.Ns mainGlobals mg) (hfa : mg "law" = some (.ref fa))
    {C_Blocks : Addr}
    {C_Store : Addr}
    {C_Rule : Addr}
    {f_sums_of : Addr} {odsums_of ansums_of : Option Addr} {slsums_of : Array (Option Value)} {ocsums_of kVsums_of dcsums_of pmsums_of cdsums_of ctsums_of : Value}
    {f_totals_of : Addr} {odtotals_of antotals_of : Option Addr} {sltotals_of : Array (Option Value)} {octotals_of kVtotals_of dctotals_of pmtotals_of cdtotals_of cttotals_of : Value}
    {f_next_strip : Addr} {odnext_strip annext_strip : Option Addr} {slnext_strip : Array (Option Value)} {ocnext_strip kVnext_strip dcnext_strip pmnext_strip cdnext_strip ctnext_strip : Value}
    {f_place_of : Addr} {odplace_of anplace_of : Option Addr} {slplace_of : Array (Option Value)} {ocplace_of kVplace_of dcplace_of pmplace_of cdplace_of ctplace_of : Value}
    {f_blocks_of : Addr} {odblocks_of anblocks_of : Option Addr} {slblocks_of : Array (Option Value)} {ocblocks_of kVblocks_of dcblocks_of pmblocks_of cdblocks_of ctblocks_of : Value}
    {f_block_cells : Addr} {odblock_cells anblock_cells : Option Addr} {slblock_cells : Array (Option Value)} {ocblock_cells kVblock_cells dcblock_cells pmblock_cells cdblock_cells ctblock_cells : Value}
    {f_block_count : Addr} {odblock_count anblock_count : Option Addr} {slblock_count : Array (Option Value)} {ocblock_count kVblock_count dcblock_count pmblock_count cdblock_count ctblock_count : Value}
    {f_next_block : Addr} {odnext_block annext_block : Option Addr} {slnext_block : Array (Option Value)} {ocnext_block kVnext_block dcnext_block pmnext_block cdnext_block ctnext_block : Value}
    {f_Blocks_init : Addr} {odBlocks_init anBlocks_init : Option Addr} {slBlocks_init : Array (Option Value)} {ocBlocks_init kVBlocks_init dcBlocks_init pmBlocks_init cdBlocks_init ctBlocks_init : Value}
    {f_Blocks_cut : Addr} {odBlocks_cut anBlocks_cut : Option Addr} {slBlocks_cut : Array (Option Value)} {ocBlocks_cut kVBlocks_cut dcBlocks_cut pmBlocks_cut cdBlocks_cut ctBlocks_cut : Value}
    {f_Blocks_quarters : Addr} {odBlocks_quarters anBlocks_quarters : Option Addr} {slBlocks_quarters : Array (Option Value)} {ocBlocks_quarters kVBlocks_quarters dcBlocks_quarters pmBlocks_quarters cdBlocks_quarters ctBlocks_quarters : Value}
    {f_Blocks_put_together : Addr} {odBlocks_put_together anBlocks_put_together : Option Addr} {slBlocks_put_together : Array (Option Value)} {ocBlocks_put_together kVBlocks_put_together dcBlocks_put_together pmBlocks_put_together cdBlocks_put_together ctBlocks_put_together : Value}
    {f_Blocks_centre : Addr} {odBlocks_centre anBlocks_centre : Option Addr} {slBlocks_centre : Array (Option Value)} {ocBlocks_centre kVBlocks_centre dcBlocks_centre pmBlocks_centre cdBlocks_centre ctBlocks_centre : Value}
    {f_Blocks_centre_after : Addr} {odBlocks_centre_after anBlocks_centre_after : Option Addr} {slBlocks_centre_after : Array (Option Value)} {ocBlocks_centre_after kVBlocks_centre_after dcBlocks_centre_after pmBlocks_centre_after cdBlocks_centre_after ctBlocks_centre_after : Value}
    {f_full_block : Addr} {odfull_block anfull_block : Option Addr} {slfull_block : Array (Option Value)} {ocfull_block kVfull_block dcfull_block pmfull_block cdfull_block ctfull_block : Value}
    {f_Store_init : Addr} {odStore_init anStore_init : Option Addr} {slStore_init : Array (Option Value)} {ocStore_init kVStore_init dcStore_init pmStore_init cdStore_init ctStore_init : Value}
    {f_Store_joined : Addr} {odStore_joined anStore_joined : Option Addr} {slStore_joined : Array (Option Value)} {ocStore_joined kVStore_joined dcStore_joined pmStore_joined cdStore_joined ctStore_joined : Value}
    {f_Store_small : Addr} {odStore_small anStore_small : Option Addr} {slStore_small : Array (Option Value)} {ocStore_small kVStore_small dcStore_small pmStore_small cdStore_small ctStore_small : Value}
    {f_Store_new_square : Addr} {odStore_new_square anStore_new_square : Option Addr} {slStore_new_square : Array (Option Value)} {ocStore_new_square kVStore_new_square dcStore_new_square pmStore_new_square cdStore_new_square ctStore_new_square : Value}
    {f_Store_level : Addr} {odStore_level anStore_level : Option Addr} {slStore_level : Array (Option Value)} {ocStore_level kVStore_level dcStore_level pmStore_level cdStore_level ctStore_level : Value}
    {f_Store_parts : Addr} {odStore_parts anStore_parts : Option Addr} {slStore_parts : Array (Option Value)} {ocStore_parts kVStore_parts dcStore_parts pmStore_parts cdStore_parts ctStore_parts : Value}
    {f_Store_empty : Addr} {odStore_empty anStore_empty : Option Addr} {slStore_empty : Array (Option Value)} {ocStore_empty kVStore_empty dcStore_empty pmStore_empty cdStore_empty ctStore_empty : Value}
    {f_Store_built : Addr} {odStore_built anStore_built : Option Addr} {slStore_built : Array (Option Value)} {ocStore_built kVStore_built dcStore_built pmStore_built cdStore_built ctStore_built : Value}
    {f_Store_cells : Addr} {odStore_cells anStore_cells : Option Addr} {slStore_cells : Array (Option Value)} {ocStore_cells kVStore_cells dcStore_cells pmStore_cells cdStore_cells ctStore_cells : Value}
    {f_Store_middle : Addr} {odStore_middle anStore_middle : Option Addr} {slStore_middle : Array (Option Value)} {ocStore_middle kVStore_middle dcStore_middle pmStore_middle cdStore_middle ctStore_middle : Value}
    {f_Store_future : Addr} {odStore_future anStore_future : Option Addr} {slStore_future : Array (Option Value)} {ocStore_future kVStore_future dcStore_future pmStore_future cdStore_future ctStore_future : Value}
    {f_Store_new_future : Addr} {odStore_new_future anStore_new_future : Option Addr} {slStore_new_future : Array (Option Value)} {ocStore_new_future kVStore_new_future dcStore_new_future pmStore_new_future cdStore_new_future ctStore_new_future : Value}
    {f_Store_nine : Addr} {odStore_nine anStore_nine : Option Addr} {slStore_nine : Array (Option Value)} {ocStore_nine kVStore_nine dcStore_nine pmStore_nine cdStore_nine ctStore_nine : Value}
    {f_Store_four : Addr} {odStore_four anStore_four : Option Addr} {slStore_four : Array (Option Value)} {ocStore_four kVStore_four dcStore_four pmStore_four cdStore_four ctStore_four : Value}
    {f_Store_at_level : Addr} {odStore_at_level anStore_at_level : Option Addr} {slStore_at_level : Array (Option Value)} {ocStore_at_level kVStore_at_level dcStore_at_level pmStore_at_level cdStore_at_level ctStore_at_level : Value}
    {f_Store_raised : Addr} {odStore_raised anStore_raised : Option Addr} {slStore_raised : Array (Option Value)} {ocStore_raised kVStore_raised dcStore_raised pmStore_raised cdStore_raised ctStore_raised : Value}
    {f_Store_lowered : Addr} {odStore_lowered anStore_lowered : Option Addr} {slStore_lowered : Array (Option Value)} {ocStore_lowered kVStore_lowered dcStore_lowered pmStore_lowered cdStore_lowered ctStore_lowered : Value}
    {f_Rule_init : Addr} {odRule_init anRule_init : Option Addr} {slRule_init : Array (Option Value)} {ocRule_init kVRule_init dcRule_init pmRule_init cdRule_init ctRule_init : Value}
    {f_law_cell : Addr} {odlaw_cell anlaw_cell : Option Addr} {sllaw_cell : Array (Option Value)} {oclaw_cell kVlaw_cell dclaw_cell pmlaw_cell cdlaw_cell ctlaw_cell : Value}
    {f_law_row : Addr} {odlaw_row anlaw_row : Option Addr} {sllaw_row : Array (Option Value)} {oclaw_row kVlaw_row dclaw_row pmlaw_row cdlaw_row ctlaw_row : Value}
    {f_law_numbers : Addr} {odlaw_numbers anlaw_numbers : Option Addr} {sllaw_numbers : Array (Option Value)} {oclaw_numbers kVlaw_numbers dclaw_numbers pmlaw_numbers cdlaw_numbers ctlaw_numbers : Value}
    {f_law_some : Addr} {odlaw_some anlaw_some : Option Addr} {sllaw_some : Array (Option Value)} {oclaw_some kVlaw_some dclaw_some pmlaw_some cdlaw_some ctlaw_some : Value}
    {f_law_next : Addr} {odlaw_next anlaw_next : Option Addr} {sllaw_next : Array (Option Value)} {oclaw_next kVlaw_next dclaw_next pmlaw_next cdlaw_next ctlaw_next : Value}
    {f_law_middle : Addr} {odlaw_middle anlaw_middle : Option Addr} {sllaw_middle : Array (Option Value)} {oclaw_middle kVlaw_middle dclaw_middle pmlaw_middle cdlaw_middle ctlaw_middle : Value}
    {f_law : Addr} {odlaw anlaw : Option Addr} {sllaw : Array (Option Value)} {oclaw kVlaw dclaw pmlaw cdlaw ctlaw : Value}
    {uSIDE : Tok}
    {uTOP : Tok}
    (aCBlocks : PySem.W.nsIn K mainGlobals "Blocks" = some (some (.ref C_Blocks)))
    (pgBlocks : PySem.W.plainGet K C_Blocks Str.empty = true)
    (hdBlocks : PySem.W.hasDictIn K C_Blocks = true)
    (poBlocks : PySem.W.plainOver K C_Blocks = true)
    (saBlocks : PySem.W.findIn K (.ref C_Blocks) "__setattr__" = some (some (.builtin "object.__setattr__")))
    (mkBlocks : PySem.W.makesIn K C_Blocks = true)
    (kcBlocks : PySem.W.keepIn K (.ref C_Blocks) = true)
    (nBlocks_rule : PySem.W.findIn K (.ref C_Blocks) "_rule" = some none)
    (nBlocks_full : PySem.W.findIn K (.ref C_Blocks) "_full" = some none)
    (aCStore : PySem.W.nsIn K mainGlobals "Store" = some (some (.ref C_Store)))
    (pgStore : PySem.W.plainGet K C_Store Str.empty = true)
    (hdStore : PySem.W.hasDictIn K C_Store = true)
    (poStore : PySem.W.plainOver K C_Store = true)
    (saStore : PySem.W.findIn K (.ref C_Store) "__setattr__" = some (some (.builtin "object.__setattr__")))
    (mkStore : PySem.W.makesIn K C_Store = true)
    (kcStore : PySem.W.keepIn K (.ref C_Store) = true)
    (nStore_rule : PySem.W.findIn K (.ref C_Store) "_rule" = some none)
    (nStore_blocks : PySem.W.findIn K (.ref C_Store) "_blocks" = some none)
    (nStore_levels : PySem.W.findIn K (.ref C_Store) "_levels" = some none)
    (nStore_counts : PySem.W.findIn K (.ref C_Store) "_counts" = some none)
    (nStore_bits : PySem.W.findIn K (.ref C_Store) "_bits" = some none)
    (nStore_parts : PySem.W.findIn K (.ref C_Store) "_parts" = some none)
    (nStore_small : PySem.W.findIn K (.ref C_Store) "_small" = some none)
    (nStore_large : PySem.W.findIn K (.ref C_Store) "_large" = some none)
    (nStore_empty : PySem.W.findIn K (.ref C_Store) "_empty" = some none)
    (nStore_futures : PySem.W.findIn K (.ref C_Store) "_futures" = some none)
    (aCRule : PySem.W.nsIn K mainGlobals "Rule" = some (some (.ref C_Rule)))
    (pgRule : PySem.W.plainGet K C_Rule Str.empty = true)
    (hdRule : PySem.W.hasDictIn K C_Rule = true)
    (poRule : PySem.W.plainOver K C_Rule = true)
    (saRule : PySem.W.findIn K (.ref C_Rule) "__setattr__" = some (some (.builtin "object.__setattr__")))
    (mkRule : PySem.W.makesIn K C_Rule = true)
    (kcRule : PySem.W.keepIn K (.ref C_Rule) = true)
    (nRulebirths : PySem.W.findIn K (.ref C_Rule) "births" = some none)
    (nRulesurvival : PySem.W.findIn K (.ref C_Rule) "survival" = some none)
    (asums_of : PySem.W.nsIn K mainGlobals "sums_of" = some (some (.ref f_sums_of)))
    (lsums_of : K.lookup f_sums_of = some ⟨ocsums_of, odsums_of, .func (PySem.W.fnOf "sums_of" "sums_of" (defArgs s_sums_of) (defBody s_sums_of) (defScope s_sums_of) .none kVsums_of dcsums_of pmsums_of ansums_of cdsums_of ctsums_of), slsums_of⟩)
    (csums_of : PySem.W.codeIn K cdsums_of "sums_of" = true)
    (ksums_of : PySem.W.keepIn K (.ref f_sums_of) = true)
    (atotals_of : PySem.W.nsIn K mainGlobals "totals_of" = some (some (.ref f_totals_of)))
    (ltotals_of : K.lookup f_totals_of = some ⟨octotals_of, odtotals_of, .func (PySem.W.fnOf "totals_of" "totals_of" (defArgs s_totals_of) (defBody s_totals_of) (defScope s_totals_of) .none kVtotals_of dctotals_of pmtotals_of antotals_of cdtotals_of cttotals_of), sltotals_of⟩)
    (ctotals_of : PySem.W.codeIn K cdtotals_of "totals_of" = true)
    (ktotals_of : PySem.W.keepIn K (.ref f_totals_of) = true)
    (anext_strip : PySem.W.nsIn K mainGlobals "next_strip" = some (some (.ref f_next_strip)))
    (lnext_strip : K.lookup f_next_strip = some ⟨ocnext_strip, odnext_strip, .func (PySem.W.fnOf "next_strip" "next_strip" (defArgs s_next_strip) (defBody s_next_strip) (defScope s_next_strip) .none kVnext_strip dcnext_strip pmnext_strip annext_strip cdnext_strip ctnext_strip), slnext_strip⟩)
    (cnext_strip : PySem.W.codeIn K cdnext_strip "next_strip" = true)
    (knext_strip : PySem.W.keepIn K (.ref f_next_strip) = true)
    (aplace_of : PySem.W.nsIn K mainGlobals "place_of" = some (some (.ref f_place_of)))
    (lplace_of : K.lookup f_place_of = some ⟨ocplace_of, odplace_of, .func (PySem.W.fnOf "place_of" "place_of" (defArgs s_place_of) (defBody s_place_of) (defScope s_place_of) .none kVplace_of dcplace_of pmplace_of anplace_of cdplace_of ctplace_of), slplace_of⟩)
    (cplace_of : PySem.W.codeIn K cdplace_of "place_of" = true)
    (kplace_of : PySem.W.keepIn K (.ref f_place_of) = true)
    (ablocks_of : PySem.W.nsIn K mainGlobals "blocks_of" = some (some (.ref f_blocks_of)))
    (lblocks_of : K.lookup f_blocks_of = some ⟨ocblocks_of, odblocks_of, .func (PySem.W.fnOf "blocks_of" "blocks_of" (defArgs s_blocks_of) (defBody s_blocks_of) (defScope s_blocks_of) .none kVblocks_of dcblocks_of pmblocks_of anblocks_of cdblocks_of ctblocks_of), slblocks_of⟩)
    (cblocks_of : PySem.W.codeIn K cdblocks_of "blocks_of" = true)
    (kblocks_of : PySem.W.keepIn K (.ref f_blocks_of) = true)
    (ablock_cells : PySem.W.nsIn K mainGlobals "block_cells" = some (some (.ref f_block_cells)))
    (lblock_cells : K.lookup f_block_cells = some ⟨ocblock_cells, odblock_cells, .func (PySem.W.fnOf "block_cells" "block_cells" (defArgs s_block_cells) (defBody s_block_cells) (defScope s_block_cells) .none kVblock_cells dcblock_cells pmblock_cells anblock_cells cdblock_cells ctblock_cells), slblock_cells⟩)
    (cblock_cells : PySem.W.codeIn K cdblock_cells "block_cells" = true)
    (kblock_cells : PySem.W.keepIn K (.ref f_block_cells) = true)
    (ablock_count : PySem.W.nsIn K mainGlobals "block_count" = some (some (.ref f_block_count)))
    (lblock_count : K.lookup f_block_count = some ⟨ocblock_count, odblock_count, .func (PySem.W.fnOf "block_count" "block_count" (defArgs s_block_count) (defBody s_block_count) (defScope s_block_count) .none kVblock_count dcblock_count pmblock_count anblock_count cdblock_count ctblock_count), slblock_count⟩)
    (cblock_count : PySem.W.codeIn K cdblock_count "block_count" = true)
    (kblock_count : PySem.W.keepIn K (.ref f_block_count) = true)
    (anext_block : PySem.W.nsIn K mainGlobals "next_block" = some (some (.ref f_next_block)))
    (lnext_block : K.lookup f_next_block = some ⟨ocnext_block, odnext_block, .func (PySem.W.fnOf "next_block" "next_block" (defArgs s_next_block) (defBody s_next_block) (defScope s_next_block) .none kVnext_block dcnext_block pmnext_block annext_block cdnext_block ctnext_block), slnext_block⟩)
    (cnext_block : PySem.W.codeIn K cdnext_block "next_block" = true)
    (knext_block : PySem.W.keepIn K (.ref f_next_block) = true)
    (aBlocks_init : PySem.W.findIn K (.ref C_Blocks) "__init__" = some (some (.ref f_Blocks_init)))
    (iBlocks_init : PySem.W.isFn K (.ref f_Blocks_init) = true)
    (lBlocks_init : K.lookup f_Blocks_init = some ⟨ocBlocks_init, odBlocks_init, .func (PySem.W.fnOf "__init__" "Blocks.__init__" (defArgs s_Blocks_init) (defBody s_Blocks_init) (defScope s_Blocks_init) .none kVBlocks_init dcBlocks_init pmBlocks_init anBlocks_init cdBlocks_init ctBlocks_init), slBlocks_init⟩)
    (cBlocks_init : PySem.W.codeIn K cdBlocks_init "Blocks.__init__" = true)
    (kBlocks_init : PySem.W.keepIn K (.ref f_Blocks_init) = true)
    (aBlocks_cut : PySem.W.findIn K (.ref C_Blocks) "cut" = some (some (.ref f_Blocks_cut)))
    (iBlocks_cut : PySem.W.isFn K (.ref f_Blocks_cut) = true)
    (lBlocks_cut : K.lookup f_Blocks_cut = some ⟨ocBlocks_cut, odBlocks_cut, .func (PySem.W.fnOf "cut" "Blocks.cut" (defArgs s_Blocks_cut) (defBody s_Blocks_cut) (defScope s_Blocks_cut) .none kVBlocks_cut dcBlocks_cut pmBlocks_cut anBlocks_cut cdBlocks_cut ctBlocks_cut), slBlocks_cut⟩)
    (cBlocks_cut : PySem.W.codeIn K cdBlocks_cut "Blocks.cut" = true)
    (kBlocks_cut : PySem.W.keepIn K (.ref f_Blocks_cut) = true)
    (aBlocks_quarters : PySem.W.findIn K (.ref C_Blocks) "quarters" = some (some (.ref f_Blocks_quarters)))
    (iBlocks_quarters : PySem.W.isFn K (.ref f_Blocks_quarters) = true)
    (lBlocks_quarters : K.lookup f_Blocks_quarters = some ⟨ocBlocks_quarters, odBlocks_quarters, .func (PySem.W.fnOf "quarters" "Blocks.quarters" (defArgs s_Blocks_quarters) (defBody s_Blocks_quarters) (defScope s_Blocks_quarters) .none kVBlocks_quarters dcBlocks_quarters pmBlocks_quarters anBlocks_quarters cdBlocks_quarters ctBlocks_quarters), slBlocks_quarters⟩)
    (cBlocks_quarters : PySem.W.codeIn K cdBlocks_quarters "Blocks.quarters" = true)
    (kBlocks_quarters : PySem.W.keepIn K (.ref f_Blocks_quarters) = true)
    (aBlocks_put_together : PySem.W.findIn K (.ref C_Blocks) "put_together" = some (some (.ref f_Blocks_put_together)))
    (iBlocks_put_together : PySem.W.isFn K (.ref f_Blocks_put_together) = true)
    (lBlocks_put_together : K.lookup f_Blocks_put_together = some ⟨ocBlocks_put_together, odBlocks_put_together, .func (PySem.W.fnOf "put_together" "Blocks.put_together" (defArgs s_Blocks_put_together) (defBody s_Blocks_put_together) (defScope s_Blocks_put_together) .none kVBlocks_put_together dcBlocks_put_together pmBlocks_put_together anBlocks_put_together cdBlocks_put_together ctBlocks_put_together), slBlocks_put_together⟩)
    (cBlocks_put_together : PySem.W.codeIn K cdBlocks_put_together "Blocks.put_together" = true)
    (kBlocks_put_together : PySem.W.keepIn K (.ref f_Blocks_put_together) = true)
    (aBlocks_centre : PySem.W.findIn K (.ref C_Blocks) "centre" = some (some (.ref f_Blocks_centre)))
    (iBlocks_centre : PySem.W.isFn K (.ref f_Blocks_centre) = true)
    (lBlocks_centre : K.lookup f_Blocks_centre = some ⟨ocBlocks_centre, odBlocks_centre, .func (PySem.W.fnOf "centre" "Blocks.centre" (defArgs s_Blocks_centre) (defBody s_Blocks_centre) (defScope s_Blocks_centre) .none kVBlocks_centre dcBlocks_centre pmBlocks_centre anBlocks_centre cdBlocks_centre ctBlocks_centre), slBlocks_centre⟩)
    (cBlocks_centre : PySem.W.codeIn K cdBlocks_centre "Blocks.centre" = true)
    (kBlocks_centre : PySem.W.keepIn K (.ref f_Blocks_centre) = true)
    (aBlocks_centre_after : PySem.W.findIn K (.ref C_Blocks) "centre_after" = some (some (.ref f_Blocks_centre_after)))
    (iBlocks_centre_after : PySem.W.isFn K (.ref f_Blocks_centre_after) = true)
    (lBlocks_centre_after : K.lookup f_Blocks_centre_after = some ⟨ocBlocks_centre_after, odBlocks_centre_after, .func (PySem.W.fnOf "centre_after" "Blocks.centre_after" (defArgs s_Blocks_centre_after) (defBody s_Blocks_centre_after) (defScope s_Blocks_centre_after) .none kVBlocks_centre_after dcBlocks_centre_after pmBlocks_centre_after anBlocks_centre_after cdBlocks_centre_after ctBlocks_centre_after), slBlocks_centre_after⟩)
    (cBlocks_centre_after : PySem.W.codeIn K cdBlocks_centre_after "Blocks.centre_after" = true)
    (kBlocks_centre_after : PySem.W.keepIn K (.ref f_Blocks_centre_after) = true)
    (afull_block : PySem.W.nsIn K mainGlobals "_full_block" = some (some (.ref f_full_block)))
    (lfull_block : K.lookup f_full_block = some ⟨ocfull_block, odfull_block, .func (PySem.W.fnOf "_full_block" "_full_block" (defArgs s_full_block) (defBody s_full_block) (defScope s_full_block) .none kVfull_block dcfull_block pmfull_block anfull_block cdfull_block ctfull_block), slfull_block⟩)
    (cfull_block : PySem.W.codeIn K cdfull_block "_full_block" = true)
    (kfull_block : PySem.W.keepIn K (.ref f_full_block) = true)
    (aStore_init : PySem.W.findIn K (.ref C_Store) "__init__" = some (some (.ref f_Store_init)))
    (iStore_init : PySem.W.isFn K (.ref f_Store_init) = true)
    (lStore_init : K.lookup f_Store_init = some ⟨ocStore_init, odStore_init, .func (PySem.W.fnOf "__init__" "Store.__init__" (defArgs s_Store_init) (defBody s_Store_init) (defScope s_Store_init) .none kVStore_init dcStore_init pmStore_init anStore_init cdStore_init ctStore_init), slStore_init⟩)
    (cStore_init : PySem.W.codeIn K cdStore_init "Store.__init__" = true)
    (kStore_init : PySem.W.keepIn K (.ref f_Store_init) = true)
    (aStore_joined : PySem.W.findIn K (.ref C_Store) "joined" = some (some (.ref f_Store_joined)))
    (iStore_joined : PySem.W.isFn K (.ref f_Store_joined) = true)
    (lStore_joined : K.lookup f_Store_joined = some ⟨ocStore_joined, odStore_joined, .func (PySem.W.fnOf "joined" "Store.joined" (defArgs s_Store_joined) (defBody s_Store_joined) (defScope s_Store_joined) .none kVStore_joined dcStore_joined pmStore_joined anStore_joined cdStore_joined ctStore_joined), slStore_joined⟩)
    (cStore_joined : PySem.W.codeIn K cdStore_joined "Store.joined" = true)
    (kStore_joined : PySem.W.keepIn K (.ref f_Store_joined) = true)
    (aStore_small : PySem.W.findIn K (.ref C_Store) "small" = some (some (.ref f_Store_small)))
    (iStore_small : PySem.W.isFn K (.ref f_Store_small) = true)
    (lStore_small : K.lookup f_Store_small = some ⟨ocStore_small, odStore_small, .func (PySem.W.fnOf "small" "Store.small" (defArgs s_Store_small) (defBody s_Store_small) (defScope s_Store_small) .none kVStore_small dcStore_small pmStore_small anStore_small cdStore_small ctStore_small), slStore_small⟩)
    (cStore_small : PySem.W.codeIn K cdStore_small "Store.small" = true)
    (kStore_small : PySem.W.keepIn K (.ref f_Store_small) = true)
    (aStore_new_square : PySem.W.findIn K (.ref C_Store) "_new_square" = some (some (.ref f_Store_new_square)))
    (iStore_new_square : PySem.W.isFn K (.ref f_Store_new_square) = true)
    (lStore_new_square : K.lookup f_Store_new_square = some ⟨ocStore_new_square, odStore_new_square, .func (PySem.W.fnOf "_new_square" "Store._new_square" (defArgs s_Store_new_square) (defBody s_Store_new_square) (defScope s_Store_new_square) .none kVStore_new_square dcStore_new_square pmStore_new_square anStore_new_square cdStore_new_square ctStore_new_square), slStore_new_square⟩)
    (cStore_new_square : PySem.W.codeIn K cdStore_new_square "Store._new_square" = true)
    (kStore_new_square : PySem.W.keepIn K (.ref f_Store_new_square) = true)
    (aStore_level : PySem.W.findIn K (.ref C_Store) "level" = some (some (.ref f_Store_level)))
    (iStore_level : PySem.W.isFn K (.ref f_Store_level) = true)
    (lStore_level : K.lookup f_Store_level = some ⟨ocStore_level, odStore_level, .func (PySem.W.fnOf "level" "Store.level" (defArgs s_Store_level) (defBody s_Store_level) (defScope s_Store_level) .none kVStore_level dcStore_level pmStore_level anStore_level cdStore_level ctStore_level), slStore_level⟩)
    (cStore_level : PySem.W.codeIn K cdStore_level "Store.level" = true)
    (kStore_level : PySem.W.keepIn K (.ref f_Store_level) = true)
    (aStore_parts : PySem.W.findIn K (.ref C_Store) "parts" = some (some (.ref f_Store_parts)))
    (iStore_parts : PySem.W.isFn K (.ref f_Store_parts) = true)
    (lStore_parts : K.lookup f_Store_parts = some ⟨ocStore_parts, odStore_parts, .func (PySem.W.fnOf "parts" "Store.parts" (defArgs s_Store_parts) (defBody s_Store_parts) (defScope s_Store_parts) .none kVStore_parts dcStore_parts pmStore_parts anStore_parts cdStore_parts ctStore_parts), slStore_parts⟩)
    (cStore_parts : PySem.W.codeIn K cdStore_parts "Store.parts" = true)
    (kStore_parts : PySem.W.keepIn K (.ref f_Store_parts) = true)
    (aStore_empty : PySem.W.findIn K (.ref C_Store) "empty" = some (some (.ref f_Store_empty)))
    (iStore_empty : PySem.W.isFn K (.ref f_Store_empty) = true)
    (lStore_empty : K.lookup f_Store_empty = some ⟨ocStore_empty, odStore_empty, .func (PySem.W.fnOf "empty" "Store.empty" (defArgs s_Store_empty) (defBody s_Store_empty) (defScope s_Store_empty) .none kVStore_empty dcStore_empty pmStore_empty anStore_empty cdStore_empty ctStore_empty), slStore_empty⟩)
    (cStore_empty : PySem.W.codeIn K cdStore_empty "Store.empty" = true)
    (kStore_empty : PySem.W.keepIn K (.ref f_Store_empty) = true)
    (aStore_built : PySem.W.findIn K (.ref C_Store) "built" = some (some (.ref f_Store_built)))
    (iStore_built : PySem.W.isFn K (.ref f_Store_built) = true)
    (lStore_built : K.lookup f_Store_built = some ⟨ocStore_built, odStore_built, .func (PySem.W.fnOf "built" "Store.built" (defArgs s_Store_built) (defBody s_Store_built) (defScope s_Store_built) .none kVStore_built dcStore_built pmStore_built anStore_built cdStore_built ctStore_built), slStore_built⟩)
    (cStore_built : PySem.W.codeIn K cdStore_built "Store.built" = true)
    (kStore_built : PySem.W.keepIn K (.ref f_Store_built) = true)
    (aStore_cells : PySem.W.findIn K (.ref C_Store) "cells" = some (some (.ref f_Store_cells)))
    (iStore_cells : PySem.W.isFn K (.ref f_Store_cells) = true)
    (lStore_cells : K.lookup f_Store_cells = some ⟨ocStore_cells, odStore_cells, .func (PySem.W.fnOf "cells" "Store.cells" (defArgs s_Store_cells) (defBody s_Store_cells) (defScope s_Store_cells) .none kVStore_cells dcStore_cells pmStore_cells anStore_cells cdStore_cells ctStore_cells), slStore_cells⟩)
    (cStore_cells : PySem.W.codeIn K cdStore_cells "Store.cells" = true)
    (kStore_cells : PySem.W.keepIn K (.ref f_Store_cells) = true)
    (aStore_middle : PySem.W.findIn K (.ref C_Store) "middle" = some (some (.ref f_Store_middle)))
    (iStore_middle : PySem.W.isFn K (.ref f_Store_middle) = true)
    (lStore_middle : K.lookup f_Store_middle = some ⟨ocStore_middle, odStore_middle, .func (PySem.W.fnOf "middle" "Store.middle" (defArgs s_Store_middle) (defBody s_Store_middle) (defScope s_Store_middle) .none kVStore_middle dcStore_middle pmStore_middle anStore_middle cdStore_middle ctStore_middle), slStore_middle⟩)
    (cStore_middle : PySem.W.codeIn K cdStore_middle "Store.middle" = true)
    (kStore_middle : PySem.W.keepIn K (.ref f_Store_middle) = true)
    (aStore_future : PySem.W.findIn K (.ref C_Store) "future" = some (some (.ref f_Store_future)))
    (iStore_future : PySem.W.isFn K (.ref f_Store_future) = true)
    (lStore_future : K.lookup f_Store_future = some ⟨ocStore_future, odStore_future, .func (PySem.W.fnOf "future" "Store.future" (defArgs s_Store_future) (defBody s_Store_future) (defScope s_Store_future) .none kVStore_future dcStore_future pmStore_future anStore_future cdStore_future ctStore_future), slStore_future⟩)
    (cStore_future : PySem.W.codeIn K cdStore_future "Store.future" = true)
    (kStore_future : PySem.W.keepIn K (.ref f_Store_future) = true)
    (aStore_new_future : PySem.W.findIn K (.ref C_Store) "_new_future" = some (some (.ref f_Store_new_future)))
    (iStore_new_future : PySem.W.isFn K (.ref f_Store_new_future) = true)
    (lStore_new_future : K.lookup f_Store_new_future = some ⟨ocStore_new_future, odStore_new_future, .func (PySem.W.fnOf "_new_future" "Store._new_future" (defArgs s_Store_new_future) (defBody s_Store_new_future) (defScope s_Store_new_future) .none kVStore_new_future dcStore_new_future pmStore_new_future anStore_new_future cdStore_new_future ctStore_new_future), slStore_new_future⟩)
    (cStore_new_future : PySem.W.codeIn K cdStore_new_future "Store._new_future" = true)
    (kStore_new_future : PySem.W.keepIn K (.ref f_Store_new_future) = true)
    (aStore_nine : PySem.W.findIn K (.ref C_Store) "_nine" = some (some (.ref f_Store_nine)))
    (iStore_nine : PySem.W.isFn K (.ref f_Store_nine) = true)
    (lStore_nine : K.lookup f_Store_nine = some ⟨ocStore_nine, odStore_nine, .func (PySem.W.fnOf "_nine" "Store._nine" (defArgs s_Store_nine) (defBody s_Store_nine) (defScope s_Store_nine) .none kVStore_nine dcStore_nine pmStore_nine anStore_nine cdStore_nine ctStore_nine), slStore_nine⟩)
    (cStore_nine : PySem.W.codeIn K cdStore_nine "Store._nine" = true)
    (kStore_nine : PySem.W.keepIn K (.ref f_Store_nine) = true)
    (aStore_four : PySem.W.findIn K (.ref C_Store) "_four" = some (some (.ref f_Store_four)))
    (iStore_four : PySem.W.isFn K (.ref f_Store_four) = true)
    (lStore_four : K.lookup f_Store_four = some ⟨ocStore_four, odStore_four, .func (PySem.W.fnOf "_four" "Store._four" (defArgs s_Store_four) (defBody s_Store_four) (defScope s_Store_four) .none kVStore_four dcStore_four pmStore_four anStore_four cdStore_four ctStore_four), slStore_four⟩)
    (cStore_four : PySem.W.codeIn K cdStore_four "Store._four" = true)
    (kStore_four : PySem.W.keepIn K (.ref f_Store_four) = true)
    (aStore_at_level : PySem.W.findIn K (.ref C_Store) "at_level" = some (some (.ref f_Store_at_level)))
    (iStore_at_level : PySem.W.isFn K (.ref f_Store_at_level) = true)
    (lStore_at_level : K.lookup f_Store_at_level = some ⟨ocStore_at_level, odStore_at_level, .func (PySem.W.fnOf "at_level" "Store.at_level" (defArgs s_Store_at_level) (defBody s_Store_at_level) (defScope s_Store_at_level) .none kVStore_at_level dcStore_at_level pmStore_at_level anStore_at_level cdStore_at_level ctStore_at_level), slStore_at_level⟩)
    (cStore_at_level : PySem.W.codeIn K cdStore_at_level "Store.at_level" = true)
    (kStore_at_level : PySem.W.keepIn K (.ref f_Store_at_level) = true)
    (aStore_raised : PySem.W.findIn K (.ref C_Store) "_raised" = some (some (.ref f_Store_raised)))
    (iStore_raised : PySem.W.isFn K (.ref f_Store_raised) = true)
    (lStore_raised : K.lookup f_Store_raised = some ⟨ocStore_raised, odStore_raised, .func (PySem.W.fnOf "_raised" "Store._raised" (defArgs s_Store_raised) (defBody s_Store_raised) (defScope s_Store_raised) .none kVStore_raised dcStore_raised pmStore_raised anStore_raised cdStore_raised ctStore_raised), slStore_raised⟩)
    (cStore_raised : PySem.W.codeIn K cdStore_raised "Store._raised" = true)
    (kStore_raised : PySem.W.keepIn K (.ref f_Store_raised) = true)
    (aStore_lowered : PySem.W.findIn K (.ref C_Store) "_lowered" = some (some (.ref f_Store_lowered)))
    (iStore_lowered : PySem.W.isFn K (.ref f_Store_lowered) = true)
    (lStore_lowered : K.lookup f_Store_lowered = some ⟨ocStore_lowered, odStore_lowered, .func (PySem.W.fnOf "_lowered" "Store._lowered" (defArgs s_Store_lowered) (defBody s_Store_lowered) (defScope s_Store_lowered) .none kVStore_lowered dcStore_lowered pmStore_lowered anStore_lowered cdStore_lowered ctStore_lowered), slStore_lowered⟩)
    (cStore_lowered : PySem.W.codeIn K cdStore_lowered "Store._lowered" = true)
    (kStore_lowered : PySem.W.keepIn K (.ref f_Store_lowered) = true)
    (aRule_init : PySem.W.findIn K (.ref C_Rule) "__init__" = some (some (.ref f_Rule_init)))
    (iRule_init : PySem.W.isFn K (.ref f_Rule_init) = true)
    (lRule_init : K.lookup f_Rule_init = some ⟨ocRule_init, odRule_init, .func (PySem.W.fnOf "__init__" "Rule.__init__" (defArgs s_Rule_init) (defBody s_Rule_init) (defScope s_Rule_init) .none kVRule_init dcRule_init pmRule_init anRule_init cdRule_init ctRule_init), slRule_init⟩)
    (cRule_init : PySem.W.codeIn K cdRule_init "Rule.__init__" = true)
    (kRule_init : PySem.W.keepIn K (.ref f_Rule_init) = true)
    (alaw_cell : PySem.W.nsIn K mainGlobals "_law_cell" = some (some (.ref f_law_cell)))
    (llaw_cell : K.lookup f_law_cell = some ⟨oclaw_cell, odlaw_cell, .func (PySem.W.fnOf "_law_cell" "_law_cell" (defArgs s_law_cell) (defBody s_law_cell) (defScope s_law_cell) .none kVlaw_cell dclaw_cell pmlaw_cell anlaw_cell cdlaw_cell ctlaw_cell), sllaw_cell⟩)
    (claw_cell : PySem.W.codeIn K cdlaw_cell "_law_cell" = true)
    (klaw_cell : PySem.W.keepIn K (.ref f_law_cell) = true)
    (alaw_row : PySem.W.nsIn K mainGlobals "_law_row" = some (some (.ref f_law_row)))
    (llaw_row : K.lookup f_law_row = some ⟨oclaw_row, odlaw_row, .func (PySem.W.fnOf "_law_row" "_law_row" (defArgs s_law_row) (defBody s_law_row) (defScope s_law_row) .none kVlaw_row dclaw_row pmlaw_row anlaw_row cdlaw_row ctlaw_row), sllaw_row⟩)
    (claw_row : PySem.W.codeIn K cdlaw_row "_law_row" = true)
    (klaw_row : PySem.W.keepIn K (.ref f_law_row) = true)
    (alaw_numbers : PySem.W.nsIn K mainGlobals "_law_numbers" = some (some (.ref f_law_numbers)))
    (llaw_numbers : K.lookup f_law_numbers = some ⟨oclaw_numbers, odlaw_numbers, .func (PySem.W.fnOf "_law_numbers" "_law_numbers" (defArgs s_law_numbers) (defBody s_law_numbers) (defScope s_law_numbers) .none kVlaw_numbers dclaw_numbers pmlaw_numbers anlaw_numbers cdlaw_numbers ctlaw_numbers), sllaw_numbers⟩)
    (claw_numbers : PySem.W.codeIn K cdlaw_numbers "_law_numbers" = true)
    (klaw_numbers : PySem.W.keepIn K (.ref f_law_numbers) = true)
    (alaw_some : PySem.W.nsIn K mainGlobals "_law_some" = some (some (.ref f_law_some)))
    (llaw_some : K.lookup f_law_some = some ⟨oclaw_some, odlaw_some, .func (PySem.W.fnOf "_law_some" "_law_some" (defArgs s_law_some) (defBody s_law_some) (defScope s_law_some) .none kVlaw_some dclaw_some pmlaw_some anlaw_some cdlaw_some ctlaw_some), sllaw_some⟩)
    (claw_some : PySem.W.codeIn K cdlaw_some "_law_some" = true)
    (klaw_some : PySem.W.keepIn K (.ref f_law_some) = true)
    (alaw_next : PySem.W.nsIn K mainGlobals "_law_next" = some (some (.ref f_law_next)))
    (llaw_next : K.lookup f_law_next = some ⟨oclaw_next, odlaw_next, .func (PySem.W.fnOf "_law_next" "_law_next" (defArgs s_law_next) (defBody s_law_next) (defScope s_law_next) .none kVlaw_next dclaw_next pmlaw_next anlaw_next cdlaw_next ctlaw_next), sllaw_next⟩)
    (claw_next : PySem.W.codeIn K cdlaw_next "_law_next" = true)
    (klaw_next : PySem.W.keepIn K (.ref f_law_next) = true)
    (alaw_middle : PySem.W.nsIn K mainGlobals "_law_middle" = some (some (.ref f_law_middle)))
    (llaw_middle : K.lookup f_law_middle = some ⟨oclaw_middle, odlaw_middle, .func (PySem.W.fnOf "_law_middle" "_law_middle" (defArgs s_law_middle) (defBody s_law_middle) (defScope s_law_middle) .none kVlaw_middle dclaw_middle pmlaw_middle anlaw_middle cdlaw_middle ctlaw_middle), sllaw_middle⟩)
    (claw_middle : PySem.W.codeIn K cdlaw_middle "_law_middle" = true)
    (klaw_middle : PySem.W.keepIn K (.ref f_law_middle) = true)
    (alaw : PySem.W.nsIn K mainGlobals "law" = some (some (.ref f_law)))
    (llaw : K.lookup f_law = some ⟨oclaw, odlaw, .func (PySem.W.fnOf "law" "law" (defArgs s_law) (defBody s_law) (defScope s_law) .none kVlaw dclaw pmlaw anlaw cdlaw ctlaw), sllaw⟩)
    (claw : PySem.W.codeIn K cdlaw "law" = true)
    (klaw : PySem.W.keepIn K (.ref f_law) = true)
    (zdivmod : PySem.W.nsIn K mainGlobals "divmod" = some none)
    (zrange : PySem.W.nsIn K mainGlobals "range" = some none)
    (zlen : PySem.W.nsIn K mainGlobals "len" = some none)
    (ztuple : PySem.W.nsIn K mainGlobals "tuple" = some none)
    (zsorted : PySem.W.nsIn K mainGlobals "sorted" = some none)
    (zenumerate : PySem.W.nsIn K mainGlobals "enumerate" = some none)
    (zset : PySem.W.nsIn K mainGlobals "set" = some none)
    (zint : PySem.W.nsIn K mainGlobals "int" = some none)
    (zabs : PySem.W.nsIn K mainGlobals "abs" = some none)
    (zmin : PySem.W.nsIn K mainGlobals "min" = some none)
    (xSIDE : PySem.W.nsIn K mainGlobals "SIDE" = some (some (.int (32) uSIDE)))
    (xTOP : PySem.W.nsIn K mainGlobals "TOP" = some (some (.int (5) uTOP))) :
    ∃ fd : FuncData, (∀ (s : Shared) (v : Value), BindsTo s fd ⟨[v], []⟩ [("script", v)]) ∧ ∀ base : Heap, K.In base → base.Ns mainGlobals mg → FnOk l.prog w K mg base CX0 40 fa fd ["script"] (sp_law K) := by
  have e := hfa.symm.trans (PySem.W.mg_of X G alaw)
  cases e
  have F_sums_of := fun_mk (st := s_sums_of) lsums_of csums_of ksums_of
  have b_sums_of := F_sums_of.binds (ps := ["left", "alive", "right"]) fun _ _ _ _ _ _ us hl => match us, hl with | [_, _, _], _ => rfl
  have F_totals_of := fun_mk (st := s_totals_of) ltotals_of ctotals_of ktotals_of
  have b_totals_of := F_totals_of.binds (ps := ["above", "here", "below"]) fun _ _ _ _ _ _ us hl => match us, hl with | [_, _, _], _ => rfl
  have F_next_strip := fun_mk (st := s_next_strip) lnext_strip cnext_strip knext_strip
  have b_next_strip := F_next_strip.binds (ps := ["alive", "totals", "rule"]) fun _ _ _ _ _ _ us hl => match us, hl with | [_, _, _], _ => rfl
  have F_place_of := fun_mk (st := s_place_of) lplace_of cplace_of kplace_of
  have b_place_of := F_place_of.binds (ps := ["row", "column"]) fun _ _ _ _ _ _ us hl => match us, hl with | [_, _], _ => rfl
  have F_blocks_of := fun_mk (st := s_blocks_of) lblocks_of cblocks_of kblocks_of
  have b_blocks_of := F_blocks_of.binds (ps := ["cells"]) fun _ _ _ _ _ _ us hl => match us, hl with | [_], _ => rfl
  have F_block_cells := fun_mk (st := s_block_cells) lblock_cells cblock_cells kblock_cells
  have b_block_cells := F_block_cells.binds (ps := ["block"]) fun _ _ _ _ _ _ us hl => match us, hl with | [_], _ => rfl
  have F_block_count := fun_mk (st := s_block_count) lblock_count cblock_count kblock_count
  have b_block_count := F_block_count.binds (ps := ["block"]) fun _ _ _ _ _ _ us hl => match us, hl with | [_], _ => rfl
  have F_next_block := fun_mk (st := s_next_block) lnext_block cnext_block knext_block
  have b_next_block := F_next_block.binds (ps := ["block", "rule"]) fun _ _ _ _ _ _ us hl => match us, hl with | [_, _], _ => rfl
  have F_Blocks_init := fun_mk (st := s_Blocks_init) lBlocks_init cBlocks_init kBlocks_init
  have b_Blocks_init := F_Blocks_init.binds (ps := ["self", "rule"]) fun _ _ _ _ _ _ us hl => match us, hl with | [_, _], _ => rfl
  have F_Blocks_cut := fun_mk (st := s_Blocks_cut) lBlocks_cut cBlocks_cut kBlocks_cut
  have b_Blocks_cut := F_Blocks_cut.binds (ps := ["self", "level", "block", "row", "column"]) fun _ _ _ _ _ _ us hl => match us, hl with | [_, _, _, _, _], _ => rfl
  have F_Blocks_quarters := fun_mk (st := s_Blocks_quarters) lBlocks_quarters cBlocks_quarters kBlocks_quarters
  have b_Blocks_quarters := F_Blocks_quarters.binds (ps := ["self", "level", "block"]) fun _ _ _ _ _ _ us hl => match us, hl with | [_, _, _], _ => rfl
  have F_Blocks_put_together := fun_mk (st := s_Blocks_put_together) lBlocks_put_together cBlocks_put_together kBlocks_put_together
  have b_Blocks_put_together := F_Blocks_put_together.binds (ps := ["self", "level", "a", "b", "c", "d"]) fun _ _ _ _ _ _ us hl => match us, hl with | [_, _, _, _, _, _], _ => rfl
  have F_Blocks_centre := fun_mk (st := s_Blocks_centre) lBlocks_centre cBlocks_centre kBlocks_centre
  have b_Blocks_centre := F_Blocks_centre.binds (ps := ["self", "level", "block"]) fun _ _ _ _ _ _ us hl => match us, hl with | [_, _, _], _ => rfl
  have F_Blocks_centre_after := fun_mk (st := s_Blocks_centre_after) lBlocks_centre_after cBlocks_centre_after kBlocks_centre_after
  have b_Blocks_centre_after := F_Blocks_centre_after.binds (ps := ["self", "level", "block", "generations"]) fun _ _ _ _ _ _ us hl => match us, hl with | [_, _, _, _], _ => rfl
  have F_full_block := fun_mk (st := s_full_block) lfull_block cfull_block kfull_block
  have b_full_block := F_full_block.binds (ps := ["level"]) fun _ _ _ _ _ _ us hl => match us, hl with | [_], _ => rfl
  have F_Store_init := fun_mk (st := s_Store_init) lStore_init cStore_init kStore_init
  have b_Store_init := F_Store_init.binds (ps := ["self", "rule"]) fun _ _ _ _ _ _ us hl => match us, hl with | [_, _], _ => rfl
  have F_Store_joined := fun_mk (st := s_Store_joined) lStore_joined cStore_joined kStore_joined
  have b_Store_joined := F_Store_joined.binds (ps := ["self", "a", "b", "c", "d"]) fun _ _ _ _ _ _ us hl => match us, hl with | [_, _, _, _, _], _ => rfl
  have F_Store_small := fun_mk (st := s_Store_small) lStore_small cStore_small kStore_small
  have b_Store_small := F_Store_small.binds (ps := ["self", "level", "block"]) fun _ _ _ _ _ _ us hl => match us, hl with | [_, _, _], _ => rfl
  have F_Store_new_square := fun_mk (st := s_Store_new_square) lStore_new_square cStore_new_square kStore_new_square
  have b_Store_new_square := F_Store_new_square.binds (ps := ["self", "level", "count", "block", "parts"]) fun _ _ _ _ _ _ us hl => match us, hl with | [_, _, _, _, _], _ => rfl
  have F_Store_level := fun_mk (st := s_Store_level) lStore_level cStore_level kStore_level
  have b_Store_level := F_Store_level.binds (ps := ["self", "square"]) fun _ _ _ _ _ _ us hl => match us, hl with | [_, _], _ => rfl
  have F_Store_parts := fun_mk (st := s_Store_parts) lStore_parts cStore_parts kStore_parts
  have b_Store_parts := F_Store_parts.binds (ps := ["self", "square"]) fun _ _ _ _ _ _ us hl => match us, hl with | [_, _], _ => rfl
  have F_Store_empty := fun_mk (st := s_Store_empty) lStore_empty cStore_empty kStore_empty
  have b_Store_empty := F_Store_empty.binds (ps := ["self", "level"]) fun _ _ _ _ _ _ us hl => match us, hl with | [_, _], _ => rfl
  have F_Store_built := fun_mk (st := s_Store_built) lStore_built cStore_built kStore_built
  have b_Store_built := F_Store_built.binds (ps := ["self", "cells", "level"]) fun _ _ _ _ _ _ us hl => match us, hl with | [_, _, _], _ => rfl
  have F_Store_cells := fun_mk (st := s_Store_cells) lStore_cells cStore_cells kStore_cells
  have b_Store_cells := F_Store_cells.binds (ps := ["self", "square"]) fun _ _ _ _ _ _ us hl => match us, hl with | [_, _], _ => rfl
  have F_Store_middle := fun_mk (st := s_Store_middle) lStore_middle cStore_middle kStore_middle
  have b_Store_middle := F_Store_middle.binds (ps := ["self", "square"]) fun _ _ _ _ _ _ us hl => match us, hl with | [_, _], _ => rfl
  have F_Store_future := fun_mk (st := s_Store_future) lStore_future cStore_future kStore_future
  have b_Store_future := F_Store_future.binds (ps := ["self", "square", "j"]) fun _ _ _ _ _ _ us hl => match us, hl with | [_, _, _], _ => rfl
  have F_Store_new_future := fun_mk (st := s_Store_new_future) lStore_new_future cStore_new_future kStore_new_future
  have b_Store_new_future := F_Store_new_future.binds (ps := ["self", "square", "j"]) fun _ _ _ _ _ _ us hl => match us, hl with | [_, _, _], _ => rfl
  have F_Store_nine := fun_mk (st := s_Store_nine) lStore_nine cStore_nine kStore_nine
  have b_Store_nine := F_Store_nine.binds (ps := ["self", "square"]) fun _ _ _ _ _ _ us hl => match us, hl with | [_, _], _ => rfl
  have F_Store_four := fun_mk (st := s_Store_four) lStore_four cStore_four kStore_four
  have b_Store_four := F_Store_four.binds (ps := ["self", "nine"]) fun _ _ _ _ _ _ us hl => match us, hl with | [_, _], _ => rfl
  have F_Store_at_level := fun_mk (st := s_Store_at_level) lStore_at_level cStore_at_level kStore_at_level
  have b_Store_at_level := F_Store_at_level.binds (ps := ["self", "layout", "level", "wanted"]) fun _ _ _ _ _ _ us hl => match us, hl with | [_, _, _, _], _ => rfl
  have F_Store_raised := fun_mk (st := s_Store_raised) lStore_raised cStore_raised kStore_raised
  have b_Store_raised := F_Store_raised.binds (ps := ["self", "layout", "level"]) fun _ _ _ _ _ _ us hl => match us, hl with | [_, _, _], _ => rfl
  have F_Store_lowered := fun_mk (st := s_Store_lowered) lStore_lowered cStore_lowered kStore_lowered
  have b_Store_lowered := F_Store_lowered.binds (ps := ["self", "layout"]) fun _ _ _ _ _ _ us hl => match us, hl with | [_, _], _ => rfl
  have F_Rule_init := fun_mk (st := s_Rule_init) lRule_init cRule_init kRule_init
  have b_Rule_init := F_Rule_init.binds (ps := ["self", "births", "survival"]) fun _ _ _ _ _ _ us hl => match us, hl with | [_, _, _], _ => rfl
  have F_law_cell := fun_mk (st := s_law_cell) llaw_cell claw_cell klaw_cell
  have b_law_cell := F_law_cell.binds (ps := ["script", "k"]) fun _ _ _ _ _ _ us hl => match us, hl with | [_, _], _ => rfl
  have F_law_row := fun_mk (st := s_law_row) llaw_row claw_row klaw_row
  have b_law_row := F_law_row.binds (ps := ["cell", "count", "bound"]) fun _ _ _ _ _ _ us hl => match us, hl with | [_, _, _], _ => rfl
  have F_law_numbers := fun_mk (st := s_law_numbers) llaw_numbers claw_numbers klaw_numbers
  have b_law_numbers := F_law_numbers.binds (ps := ["cell"]) fun _ _ _ _ _ _ us hl => match us, hl with | [_], _ => rfl
  have F_law_some := fun_mk (st := s_law_some) llaw_some claw_some klaw_some
  have b_law_some := F_law_some.binds (ps := ["cell", "count", "height", "width"]) fun _ _ _ _ _ _ us hl => match us, hl with | [_, _, _, _], _ => rfl
  have F_law_next := fun_mk (st := s_law_next) llaw_next claw_next klaw_next
  have b_law_next := F_law_next.binds (ps := ["cells", "births", "survival"]) fun _ _ _ _ _ _ us hl => match us, hl with | [_, _, _], _ => rfl
  have F_law_middle := fun_mk (st := s_law_middle) llaw_middle claw_middle klaw_middle
  have b_law_middle := F_law_middle.binds (ps := ["cells", "level"]) fun _ _ _ _ _ _ us hl => match us, hl with | [_, _], _ => rfl
  have F_law := fun_mk (st := s_law) llaw claw klaw
  have b_law := F_law.binds (ps := ["script"]) fun _ _ _ _ _ _ us hl => match us, hl with | [_], _ => rfl
  let T : Txt K mg := {
    C_Blocks := C_Blocks,
    g_Blocks := PySem.W.mg_of X G aCBlocks,
    cl_Blocks := ⟨pgBlocks, hdBlocks, poBlocks, saBlocks⟩,
    na_Blocks__rule := nBlocks_rule,
    na_Blocks__full := nBlocks_full,
    C_Store := C_Store,
    g_Store := PySem.W.mg_of X G aCStore,
    cl_Store := ⟨pgStore, hdStore, poStore, saStore⟩,
    na_Store__rule := nStore_rule,
    na_Store__blocks := nStore_blocks,
    na_Store__levels := nStore_levels,
    na_Store__counts := nStore_counts,
    na_Store__bits := nStore_bits,
    na_Store__parts := nStore_parts,
    na_Store__small := nStore_small,
    na_Store__large := nStore_large,
    na_Store__empty := nStore_empty,
    na_Store__futures := nStore_futures,
    C_Rule := C_Rule,
    g_Rule := PySem.W.mg_of X G aCRule,
    cl_Rule := ⟨pgRule, hdRule, poRule, saRule⟩,
    na_Rule_births := nRulebirths,
    na_Rule_survival := nRulesurvival,
    f_sums_of := f_sums_of,
    d_sums_of := _,
    F_sums_of := F_sums_of,
    b_sums_of := b_sums_of,
    g_sums_of := PySem.W.mg_of X G asums_of,
    f_totals_of := f_totals_of,
    d_totals_of := _,
    F_totals_of := F_totals_of,
    b_totals_of := b_totals_of,
    g_totals_of := PySem.W.mg_of X G atotals_of,
    f_next_strip := f_next_strip,
    d_next_strip := _,
    F_next_strip := F_next_strip,
    b_next_strip := b_next_strip,
    g_next_strip := PySem.W.mg_of X G anext_strip,
    f_place_of := f_place_of,
    d_place_of := _,
    F_place_of := F_place_of,
    b_place_of := b_place_of,
    g_place_of := PySem.W.mg_of X G aplace_of,
    f_blocks_of := f_blocks_of,
    d_blocks_of := _,
    F_blocks_of := F_blocks_of,
    b_blocks_of := b_blocks_of,
    g_blocks_of := PySem.W.mg_of X G ablocks_of,
    f_block_cells := f_block_cells,
    d_block_cells := _,
    F_block_cells := F_block_cells,
    b_block_cells := b_block_cells,
    g_block_cells := PySem.W.mg_of X G ablock_cells,
    f_block_count := f_block_count,
    d_block_count := _,
    F_block_count := F_block_count,
    b_block_count := b_block_count,
    g_block_count := PySem.W.mg_of X G ablock_count,
    f_next_block := f_next_block,
    d_next_block := _,
    F_next_block := F_next_block,
    b_next_block := b_next_block,
    g_next_block := PySem.W.mg_of X G anext_block,
    f_Blocks_init := f_Blocks_init,
    d_Blocks_init := _,
    F_Blocks_init := F_Blocks_init,
    b_Blocks_init := b_Blocks_init,
    M_Blocks := ⟨mkBlocks, aBlocks_init, iBlocks_init, kcBlocks⟩,
    f_Blocks_cut := f_Blocks_cut,
    d_Blocks_cut := _,
    F_Blocks_cut := F_Blocks_cut,
    b_Blocks_cut := b_Blocks_cut,
    m_Blocks_cut := ⟨aBlocks_cut, iBlocks_cut, kBlocks_cut⟩,
    f_Blocks_quarters := f_Blocks_quarters,
    d_Blocks_quarters := _,
    F_Blocks_quarters := F_Blocks_quarters,
    b_Blocks_quarters := b_Blocks_quarters,
    m_Blocks_quarters := ⟨aBlocks_quarters, iBlocks_quarters, kBlocks_quarters⟩,
    f_Blocks_put_together := f_Blocks_put_together,
    d_Blocks_put_together := _,
    F_Blocks_put_together := F_Blocks_put_together,
    b_Blocks_put_together := b_Blocks_put_together,
    m_Blocks_put_together := ⟨aBlocks_put_together, iBlocks_put_together, kBlocks_put_together⟩,
    f_Blocks_centre := f_Blocks_centre,
    d_Blocks_centre := _,
    F_Blocks_centre := F_Blocks_centre,
    b_Blocks_centre := b_Blocks_centre,
    m_Blocks_centre := ⟨aBlocks_centre, iBlocks_centre, kBlocks_centre⟩,
    f_Blocks_centre_after := f_Blocks_centre_after,
    d_Blocks_centre_after := _,
    F_Blocks_centre_after := F_Blocks_centre_after,
    b_Blocks_centre_after := b_Blocks_centre_after,
    m_Blocks_centre_after := ⟨aBlocks_centre_after, iBlocks_centre_after, kBlocks_centre_after⟩,
    f_full_block := f_full_block,
    d_full_block := _,
    F_full_block := F_full_block,
    b_full_block := b_full_block,
    g_full_block := PySem.W.mg_of X G afull_block,
    f_Store_init := f_Store_init,
    d_Store_init := _,
    F_Store_init := F_Store_init,
    b_Store_init := b_Store_init,
    M_Store := ⟨mkStore, aStore_init, iStore_init, kcStore⟩,
    f_Store_joined := f_Store_joined,
    d_Store_joined := _,
    F_Store_joined := F_Store_joined,
    b_Store_joined := b_Store_joined,
    m_Store_joined := ⟨aStore_joined, iStore_joined, kStore_joined⟩,
    f_Store_small := f_Store_small,
    d_Store_small := _,
    F_Store_small := F_Store_small,
    b_Store_small := b_Store_small,
    m_Store_small := ⟨aStore_small, iStore_small, kStore_small⟩,
    f_Store_new_square := f_Store_new_square,
    d_Store_new_square := _,
    F_Store_new_square := F_Store_new_square,
    b_Store_new_square := b_Store_new_square,
    m_Store_new_square := ⟨aStore_new_square, iStore_new_square, kStore_new_square⟩,
    f_Store_level := f_Store_level,
    d_Store_level := _,
    F_Store_level := F_Store_level,
    b_Store_level := b_Store_level,
    m_Store_level := ⟨aStore_level, iStore_level, kStore_level⟩,
    f_Store_parts := f_Store_parts,
    d_Store_parts := _,
    F_Store_parts := F_Store_parts,
    b_Store_parts := b_Store_parts,
    m_Store_parts := ⟨aStore_parts, iStore_parts, kStore_parts⟩,
    f_Store_empty := f_Store_empty,
    d_Store_empty := _,
    F_Store_empty := F_Store_empty,
    b_Store_empty := b_Store_empty,
    m_Store_empty := ⟨aStore_empty, iStore_empty, kStore_empty⟩,
    f_Store_built := f_Store_built,
    d_Store_built := _,
    F_Store_built := F_Store_built,
    b_Store_built := b_Store_built,
    m_Store_built := ⟨aStore_built, iStore_built, kStore_built⟩,
    f_Store_cells := f_Store_cells,
    d_Store_cells := _,
    F_Store_cells := F_Store_cells,
    b_Store_cells := b_Store_cells,
    m_Store_cells := ⟨aStore_cells, iStore_cells, kStore_cells⟩,
    f_Store_middle := f_Store_middle,
    d_Store_middle := _,
    F_Store_middle := F_Store_middle,
    b_Store_middle := b_Store_middle,
    m_Store_middle := ⟨aStore_middle, iStore_middle, kStore_middle⟩,
    f_Store_future := f_Store_future,
    d_Store_future := _,
    F_Store_future := F_Store_future,
    b_Store_future := b_Store_future,
    m_Store_future := ⟨aStore_future, iStore_future, kStore_future⟩,
    f_Store_new_future := f_Store_new_future,
    d_Store_new_future := _,
    F_Store_new_future := F_Store_new_future,
    b_Store_new_future := b_Store_new_future,
    m_Store_new_future := ⟨aStore_new_future, iStore_new_future, kStore_new_future⟩,
    f_Store_nine := f_Store_nine,
    d_Store_nine := _,
    F_Store_nine := F_Store_nine,
    b_Store_nine := b_Store_nine,
    m_Store_nine := ⟨aStore_nine, iStore_nine, kStore_nine⟩,
    f_Store_four := f_Store_four,
    d_Store_four := _,
    F_Store_four := F_Store_four,
    b_Store_four := b_Store_four,
    m_Store_four := ⟨aStore_four, iStore_four, kStore_four⟩,
    f_Store_at_level := f_Store_at_level,
    d_Store_at_level := _,
    F_Store_at_level := F_Store_at_level,
    b_Store_at_level := b_Store_at_level,
    m_Store_at_level := ⟨aStore_at_level, iStore_at_level, kStore_at_level⟩,
    f_Store_raised := f_Store_raised,
    d_Store_raised := _,
    F_Store_raised := F_Store_raised,
    b_Store_raised := b_Store_raised,
    m_Store_raised := ⟨aStore_raised, iStore_raised, kStore_raised⟩,
    f_Store_lowered := f_Store_lowered,
    d_Store_lowered := _,
    F_Store_lowered := F_Store_lowered,
    b_Store_lowered := b_Store_lowered,
    m_Store_lowered := ⟨aStore_lowered, iStore_lowered, kStore_lowered⟩,
    f_Rule_init := f_Rule_init,
    d_Rule_init := _,
    F_Rule_init := F_Rule_init,
    b_Rule_init := b_Rule_init,
    M_Rule := ⟨mkRule, aRule_init, iRule_init, kcRule⟩,
    f_law_cell := f_law_cell,
    d_law_cell := _,
    F_law_cell := F_law_cell,
    b_law_cell := b_law_cell,
    g_law_cell := PySem.W.mg_of X G alaw_cell,
    f_law_row := f_law_row,
    d_law_row := _,
    F_law_row := F_law_row,
    b_law_row := b_law_row,
    g_law_row := PySem.W.mg_of X G alaw_row,
    f_law_numbers := f_law_numbers,
    d_law_numbers := _,
    F_law_numbers := F_law_numbers,
    b_law_numbers := b_law_numbers,
    g_law_numbers := PySem.W.mg_of X G alaw_numbers,
    f_law_some := f_law_some,
    d_law_some := _,
    F_law_some := F_law_some,
    b_law_some := b_law_some,
    g_law_some := PySem.W.mg_of X G alaw_some,
    f_law_next := f_law_next,
    d_law_next := _,
    F_law_next := F_law_next,
    b_law_next := b_law_next,
    g_law_next := PySem.W.mg_of X G alaw_next,
    f_law_middle := f_law_middle,
    d_law_middle := _,
    F_law_middle := F_law_middle,
    b_law_middle := b_law_middle,
    g_law_middle := PySem.W.mg_of X G alaw_middle,
    f_law := fa,
    d_law := _,
    F_law := F_law,
    b_law := b_law,
    g_law := PySem.W.mg_of X G alaw,
    z_divmod := PySem.W.mg_none_of X G zdivmod,
    z_range := PySem.W.mg_none_of X G zrange,
    z_len := PySem.W.mg_none_of X G zlen,
    z_tuple := PySem.W.mg_none_of X G ztuple,
    z_sorted := PySem.W.mg_none_of X G zsorted,
    z_enumerate := PySem.W.mg_none_of X G zenumerate,
    z_set := PySem.W.mg_none_of X G zset,
    z_int := PySem.W.mg_none_of X G zint,
    z_abs := PySem.W.mg_none_of X G zabs,
    z_min := PySem.W.mg_none_of X G zmin,
    c_SIDE := ⟨_, PySem.W.mg_of X G xSIDE, ⟨_, rfl⟩⟩,
    c_TOP := ⟨_, PySem.W.mg_of X G xTOP, ⟨_, rfl⟩⟩ }
  exact ⟨_, fun s v => .of_eq rfl, fun base _ _ => ok_law T⟩
end My
open PySem PySem.W PyProof.Rows
set_option maxHeartbeats 0 in
theorem PySem.Challenge.cw_longlife_k09_middles_and_futures_holds : PySem.Challenge.rw_longlife_k09_middles_and_futures.Holds := by
  w_on; o_law; k_head; (case hw => w_witness2)
  k_fill
  refine L2.walk_of (l := PySem.Challenge.rw_longlife_k09_middles_and_futures) (n := 63) (k := 40) (x := "script") (CX := fun _ => L2.CX0) (sp := fun w => My.sp_law _) rfl (by decide) rfl ⟨rfl, by decide, by decide⟩ (fun w h Y => PySem.W.kIn_of Y) ?F (fun _ _ a ns hl _ hS => ⟨a, ns, rfl, hS, hl, fun _ => rfl⟩) (fun _ _ _ _ _ h => h)
  case F =>
    intro w mg fa h KX G hmg
    refine' My.all_mk KX G hmg ?aCBlocks ?pgBlocks ?hdBlocks ?poBlocks ?saBlocks ?mkBlocks ?kcBlocks ?nBlocks_rule ?nBlocks_full ?aCStore ?pgStore ?hdStore ?poStore ?saStore ?mkStore ?kcStore ?nStore_rule ?nStore_blocks ?nStore_levels ?nStore_counts ?nStore_bits ?nStore_parts ?nStore_small ?nStore_large ?nStore_empty ?nStore_futures ?aCRule ?pgRule ?hdRule ?poRule ?saRule ?mkRule ?kcRule ?nRulebirths ?nRulesurvival ?asums_of ?lsums_of ?csums_of ?ksums_of ?atotals_of ?ltotals_of ?ctotals_of ?ktotals_of ?anext_strip ?lnext_strip ?cnext_strip ?knext_strip ?aplace_of ?lplace_of ?cplace_of ?kplace_of ?ablocks_of ?lblocks_of ?cblocks_of ?kblocks_of ?ablock_cells ?lblock_cells ?cblock_cells ?kblock_cells ?ablock_count ?lblock_count ?cblock_count ?kblock_count ?anext_block ?lnext_block ?cnext_block ?knext_block ?aBlocks_init ?iBlocks_init ?lBlocks_init ?cBlocks_init ?kBlocks_init ?aBlocks_cut ?iBlocks_cut ?lBlocks_cut ?cBlocks_cut ?kBlocks_cut ?aBlocks_quarters ?iBlocks_quarters ?lBlocks_quarters ?cBlocks_quarters ?kBlocks_quarters ?aBlocks_put_together ?iBlocks_put_together ?lBlocks_put_together ?cBlocks_put_together ?kBlocks_put_together ?aBlocks_centre ?iBlocks_centre ?lBlocks_centre ?cBlocks_centre ?kBlocks_centre ?aBlocks_centre_after ?iBlocks_centre_after ?lBlocks_centre_after ?cBlocks_centre_after ?kBlocks_centre_after ?afull_block ?lfull_block ?cfull_block ?kfull_block ?aStore_init ?iStore_init ?lStore_init ?cStore_init ?kStore_init ?aStore_joined ?iStore_joined ?lStore_joined ?cStore_joined ?kStore_joined ?aStore_small ?iStore_small ?lStore_small ?cStore_small ?kStore_small ?aStore_new_square ?iStore_new_square ?lStore_new_square ?cStore_new_square ?kStore_new_square ?aStore_level ?iStore_level ?lStore_level ?cStore_level ?kStore_level ?aStore_parts ?iStore_parts ?lStore_parts ?cStore_parts ?kStore_parts ?aStore_empty ?iStore_empty ?lStore_empty ?cStore_empty ?kStore_empty ?aStore_built ?iStore_built ?lStore_built ?cStore_built ?kStore_built ?aStore_cells ?iStore_cells ?lStore_cells ?cStore_cells ?kStore_cells ?aStore_middle ?iStore_middle ?lStore_middle ?cStore_middle ?kStore_middle ?aStore_future ?iStore_future ?lStore_future ?cStore_future ?kStore_future ?aStore_new_future ?iStore_new_future ?lStore_new_future ?cStore_new_future ?kStore_new_future ?aStore_nine ?iStore_nine ?lStore_nine ?cStore_nine ?kStore_nine ?aStore_four ?iStore_four ?lStore_four ?cStore_four ?kStore_four ?aStore_at_level ?iStore_at_level ?lStore_at_level ?cStore_at_level ?kStore_at_level ?aStore_raised ?iStore_raised ?lStore_raised ?cStore_raised ?kStore_raised ?aStore_lowered ?iStore_lowered ?lStore_lowered ?cStore_lowered ?kStore_lowered ?aRule_init ?iRule_init ?lRule_init ?cRule_init ?kRule_init ?alaw_cell ?llaw_cell ?claw_cell ?klaw_cell ?alaw_row ?llaw_row ?claw_row ?klaw_row ?alaw_numbers ?llaw_numbers ?claw_numbers ?klaw_numbers ?alaw_some ?llaw_some ?claw_some ?klaw_some ?alaw_next ?llaw_next ?claw_next ?klaw_next ?alaw_middle ?llaw_middle ?claw_middle ?klaw_middle ?alaw ?llaw ?claw ?klaw ?zdivmod ?zrange ?zlen ?ztuple ?zsorted ?zenumerate ?zset ?zint ?zabs ?zmin ?xSIDE ?xTOP
    (case aCBlocks => k_is)
    (case pgBlocks => k_is)
    (case hdBlocks => k_is)
    (case poBlocks => k_is)
    (case saBlocks => k_is)
    (case mkBlocks => k_is)
    (case kcBlocks => k_is)
    (case nBlocks_rule => k_is)
    (case nBlocks_full => k_is)
    (case aCStore => k_is)
    (case pgStore => k_is)
    (case hdStore => k_is)
    (case poStore => k_is)
    (case saStore => k_is)
    (case mkStore => k_is)
    (case kcStore => k_is)
    (case nStore_rule => k_is)
    (case nStore_blocks => k_is)
    (case nStore_levels => k_is)
    (case nStore_counts => k_is)
    (case nStore_bits => k_is)
    (case nStore_parts => k_is)
    (case nStore_small => k_is)
    (case nStore_large => k_is)
    (case nStore_empty => k_is)
    (case nStore_futures => k_is)
    (case aCRule => k_is)
    (case pgRule => k_is)
    (case hdRule => k_is)
    (case poRule => k_is)
    (case saRule => k_is)
    (case mkRule => k_is)
    (case kcRule => k_is)
    (case nRulebirths => k_is)
    (case nRulesurvival => k_is)
    (case asums_of => k_is)
    (case lsums_of => k_is)
    (case csums_of => k_is)
    (case ksums_of => k_is)
    (case atotals_of => k_is)
    (case ltotals_of => k_is)
    (case ctotals_of => k_is)
    (case ktotals_of => k_is)
    (case anext_strip => k_is)
    (case lnext_strip => k_is)
    (case cnext_strip => k_is)
    (case knext_strip => k_is)
    (case aplace_of => k_is)
    (case lplace_of => k_is)
    (case cplace_of => k_is)
    (case kplace_of => k_is)
    (case ablocks_of => k_is)
    (case lblocks_of => k_is)
    (case cblocks_of => k_is)
    (case kblocks_of => k_is)
    (case ablock_cells => k_is)
    (case lblock_cells => k_is)
    (case cblock_cells => k_is)
    (case kblock_cells => k_is)
    (case ablock_count => k_is)
    (case lblock_count => k_is)
    (case cblock_count => k_is)
    (case kblock_count => k_is)
    (case anext_block => k_is)
    (case lnext_block => k_is)
    (case cnext_block => k_is)
    (case knext_block => k_is)
    (case aBlocks_init => k_is)
    (case iBlocks_init => k_is)
    (case lBlocks_init => k_is)
    (case cBlocks_init => k_is)
    (case kBlocks_init => k_is)
    (case aBlocks_cut => k_is)
    (case iBlocks_cut => k_is)
    (case lBlocks_cut => k_is)
    (case cBlocks_cut => k_is)
    (case kBlocks_cut => k_is)
    (case aBlocks_quarters => k_is)
    (case iBlocks_quarters => k_is)
    (case lBlocks_quarters => k_is)
    (case cBlocks_quarters => k_is)
    (case kBlocks_quarters => k_is)
    (case aBlocks_put_together => k_is)
    (case iBlocks_put_together => k_is)
    (case lBlocks_put_together => k_is)
    (case cBlocks_put_together => k_is)
    (case kBlocks_put_together => k_is)
    (case aBlocks_centre => k_is)
    (case iBlocks_centre => k_is)
    (case lBlocks_centre => k_is)
    (case cBlocks_centre => k_is)
    (case kBlocks_centre => k_is)
    (case aBlocks_centre_after => k_is)
    (case iBlocks_centre_after => k_is)
    (case lBlocks_centre_after => k_is)
    (case cBlocks_centre_after => k_is)
    (case kBlocks_centre_after => k_is)
    (case afull_block => k_is)
    (case lfull_block => k_is)
    (case cfull_block => k_is)
    (case kfull_block => k_is)
    (case aStore_init => k_is)
    (case iStore_init => k_is)
    (case lStore_init => k_is)
    (case cStore_init => k_is)
    (case kStore_init => k_is)
    (case aStore_joined => k_is)
    (case iStore_joined => k_is)
    (case lStore_joined => k_is)
    (case cStore_joined => k_is)
    (case kStore_joined => k_is)
    (case aStore_small => k_is)
    (case iStore_small => k_is)
    (case lStore_small => k_is)
    (case cStore_small => k_is)
    (case kStore_small => k_is)
    (case aStore_new_square => k_is)
    (case iStore_new_square => k_is)
    (case lStore_new_square => k_is)
    (case cStore_new_square => k_is)
    (case kStore_new_square => k_is)
    (case aStore_level => k_is)
    (case iStore_level => k_is)
    (case lStore_level => k_is)
    (case cStore_level => k_is)
    (case kStore_level => k_is)
    (case aStore_parts => k_is)
    (case iStore_parts => k_is)
    (case lStore_parts => k_is)
    (case cStore_parts => k_is)
    (case kStore_parts => k_is)
    (case aStore_empty => k_is)
    (case iStore_empty => k_is)
    (case lStore_empty => k_is)
    (case cStore_empty => k_is)
    (case kStore_empty => k_is)
    (case aStore_built => k_is)
    (case iStore_built => k_is)
    (case lStore_built => k_is)
    (case cStore_built => k_is)
    (case kStore_built => k_is)
    (case aStore_cells => k_is)
    (case iStore_cells => k_is)
    (case lStore_cells => k_is)
    (case cStore_cells => k_is)
    (case kStore_cells => k_is)
    (case aStore_middle => k_is)
    (case iStore_middle => k_is)
    (case lStore_middle => k_is)
    (case cStore_middle => k_is)
    (case kStore_middle => k_is)
    (case aStore_future => k_is)
    (case iStore_future => k_is)
    (case lStore_future => k_is)
    (case cStore_future => k_is)
    (case kStore_future => k_is)
    (case aStore_new_future => k_is)
    (case iStore_new_future => k_is)
    (case lStore_new_future => k_is)
    (case cStore_new_future => k_is)
    (case kStore_new_future => k_is)
    (case aStore_nine => k_is)
    (case iStore_nine => k_is)
    (case lStore_nine => k_is)
    (case cStore_nine => k_is)
    (case kStore_nine => k_is)
    (case aStore_four => k_is)
    (case iStore_four => k_is)
    (case lStore_four => k_is)
    (case cStore_four => k_is)
    (case kStore_four => k_is)
    (case aStore_at_level => k_is)
    (case iStore_at_level => k_is)
    (case lStore_at_level => k_is)
    (case cStore_at_level => k_is)
    (case kStore_at_level => k_is)
    (case aStore_raised => k_is)
    (case iStore_raised => k_is)
    (case lStore_raised => k_is)
    (case cStore_raised => k_is)
    (case kStore_raised => k_is)
    (case aStore_lowered => k_is)
    (case iStore_lowered => k_is)
    (case lStore_lowered => k_is)
    (case cStore_lowered => k_is)
    (case kStore_lowered => k_is)
    (case aRule_init => k_is)
    (case iRule_init => k_is)
    (case lRule_init => k_is)
    (case cRule_init => k_is)
    (case kRule_init => k_is)
    (case alaw_cell => k_is)
    (case llaw_cell => k_is)
    (case claw_cell => k_is)
    (case klaw_cell => k_is)
    (case alaw_row => k_is)
    (case llaw_row => k_is)
    (case claw_row => k_is)
    (case klaw_row => k_is)
    (case alaw_numbers => k_is)
    (case llaw_numbers => k_is)
    (case claw_numbers => k_is)
    (case klaw_numbers => k_is)
    (case alaw_some => k_is)
    (case llaw_some => k_is)
    (case claw_some => k_is)
    (case klaw_some => k_is)
    (case alaw_next => k_is)
    (case llaw_next => k_is)
    (case claw_next => k_is)
    (case klaw_next => k_is)
    (case alaw_middle => k_is)
    (case llaw_middle => k_is)
    (case claw_middle => k_is)
    (case klaw_middle => k_is)
    (case alaw => k_is)
    (case llaw => k_is)
    (case claw => k_is)
    (case klaw => k_is)
    (case zdivmod => k_is)
    (case zrange => k_is)
    (case zlen => k_is)
    (case ztuple => k_is)
    (case zsorted => k_is)
    (case zenumerate => k_is)
    (case zset => k_is)
    (case zint => k_is)
    (case zabs => k_is)
    (case zmin => k_is)
    (case xSIDE => k_is)
    (case xTOP => k_is)
