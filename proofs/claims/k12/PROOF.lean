import PyProof.Rows.All
import Wide.All
import OpenK.AllK
import Wide.FinOn
import HandS.ForMost
import HandS.Strs
import HandS.SetFor
import HandS.OwnEq
import HandS.SlotsOwn
import HandS.IsInst
import HandS.Wide
import HandS.Style
import HandS.Steps
import HandS.Walk
import HandS.TupSets
import HandS.SortRule
import PyProof.Rows.AssignMoreSeq
import HandS.NoneIn
import HandS.Deep
import PyProof.Rows.RegStrFacts
import HandS.DictTup
import HandS.Conv
import HandS.WideBits
import KE.OsArith
import PyProof.Rows.StrIntSpec
import KE.KxField
import HandS.FStr
import PyProof.Rows.RegReprOcc
import HandS.DictComp
import KE.GoesEnum
import KE.GoesMore
import HandS.Exc
import HandS.TryOnly
import HandS.ExcOwn
import HandS.WordsExc
import HandS.RaiseMore
import HandS.ExcIs
import HandS.Comp
import KE.KDictWalk
import KE.DataMinMax
import KE.DataFind
import HandS.TupLen
import HandS.SortKw
import HandS.Gcd
import KE.KMathGC
import KE.SortData
import HandS.Flow
import PySem.Challenge.RW_longlife_k12_edits_and_windows_of_a_worl
set_option Elab.async false
set_option linter.all false
set_option maxRecDepth 100000
set_option maxHeartbeats 4000000
namespace Vx
open PySem PySem.Spec PyProof.Rows L2
/-! ### heaps that grow -/
theorem newS {H : Hp} {p : Addr} {o : HO} (n : H p = none) : Same H (upd H p o) := fun b x e => by
  rw [upd_ne (ne_of_none e n)]
  exact e
theorem mutS {H H' : Hp} {p : Addr} {o : HO} (e : Same H H') (n : H p = none) : Same H (upd H' p o) := fun b x hb => by
  rw [upd_ne (ne_of_none hb n)]
  exact e b x hb
theorem getS {H H' : Hp} {a : Addr} {o : HO} (e : Same H H') (h : H a = some o) : H' a = some o := e a o h
theorem tupS {K : PySem.W.Frag} {H H' : Hp} {a : Addr} {xs : List V} (e : Same H H') (h : SqT K H a xs) : SqT K H' a xs := by
  rcases h with (h | ⟨o, h⟩) | h
  · exact .inl (.inl (e _ _ h))
  · exact .inl (.inr ⟨o, e _ _ h⟩)
  · exact .inr h
theorem lst_of {K : PySem.W.Frag} {H : Hp} {a : Addr} {xs : List V} (h : H a = some (.lst xs)) : SqL K H a xs := .inl (.inl h)
theorem tup_of {K : PySem.W.Frag} {H : Hp} {a : Addr} {xs : List V} (h : H a = some (.tup xs)) : SqT K H a xs := .inl (.inl h)
theorem neS {H H' : Hp} {a p : Addr} {o : HO} (h : H a = some o) (e : Same H H') (n : H' p = none) : a ≠ p := ne_of_none (e a o h) n
theorem backS {H H' : Hp} {p : Addr} (e : Same H H') (n : H' p = none) : H p = none := Same.free e n
theorem gen_e {H H1 : Hp} {p : Addr} {o : HO} (q : upd H p o = H1) (n : H p = none) : Same H H1 ∧ H1 p = some o := by
  subst q
  exact ⟨newS n, upd_same⟩
/-! ### calls of built-ins, one way each -/
section
variable {X : Cx}
theorem call_intI : CallR X (.type "int") (fun xs H Q => ∃ i, xs = [.int i] ∧ Q (.int i) H) := fun pins s σ H xs us Q I r h => call_int1 pins s σ H xs us Q I r (.inl h)
theorem call_tupL : CallR X (.type "tuple") (fun xs H Q => ∃ p ys, xs = [.ref p] ∧ SqL X.K H p ys ∧ ∀ l, H l = none → Q (.ref l) (upd H l (.tup ys))) := fun pins s σ H xs us Q I r h => by
  obtain ⟨p, ys, e, hs, q⟩ := h
  exact call_tuple_of pins s σ H xs us Q I r ⟨p, ys, e, .inl ⟨hs, q⟩⟩
theorem call_lenL : CallR X (.builtin "len") (fun xs H Q => ∃ p ys, xs = [.ref p] ∧ SqL X.K H p ys ∧ Q (.int ys.length) H) := fun pins s σ H xs us Q I r h => by
  obtain ⟨p, ys, e, hs, q⟩ := h
  exact call_len_seq pins s σ H xs us Q I r ⟨p, ys, e, .inl hs, q⟩
theorem call_lenU : CallR X (.builtin "len") (fun xs H Q => ∃ p ys, xs = [.ref p] ∧ SqT X.K H p ys ∧ Q (.int ys.length) H) := fun pins s σ H xs us Q I r h => by
  obtain ⟨p, ys, e, hs, q⟩ := h
  exact call_len_seq pins s σ H xs us Q I r ⟨p, ys, e, .inr hs, q⟩
theorem call_listL : CallR X (.type "list") (fun xs H Q => ∃ p ys, xs = [.ref p] ∧ SqL X.K H p ys ∧ ∀ l, H l = none → Q (.ref l) (upd H l (.lst ys))) := fun pins s σ H xs us Q I r h => by
  obtain ⟨p, ys, e, hs, q⟩ := h
  exact call_list_of pins s σ H xs us Q I r ⟨p, ys, e, .inl hs, q⟩
/-- a class of the text is no built-in type -/
theorem op_isCT : OpR X (compareOp .Is) (fun x y H Q => ∃ a n, x = V.ref a ∧ y = V.ty n ∧ Q (.bl false) H) := by
  intro pins s σ H x y v u Q I rx ry h
  obtain ⟨a, n, rfl, rfl, q⟩ := h
  cases (show v = Value.ref a from rx)
  cases (show u = Value.type n from ry)
  exact wpAny_is_other rfl (fun z => by cases z) ⟨.bl false, H, I, rfl, q⟩
theorem looks_ty {M : Model} {s : Shared} {u : Value} {T : String} (h : s.TypeIs u T) : PySem.W.Looks M s.heap (typeOf u) (.type T) := by
  unfold Shared.TypeIs at h
  split at h
  · obtain ⟨o, ho, hc⟩ := h
    exact fun A Q E s' k q => wpAny_typeOf_ref (k _ _ ho) (by rw [hc]; exact q)
  · exact PySem.W.Looks.of_pure h
/-- x == y by the text's own __eq__; y an instance of that class, or of a built-in type -/
def rEqOwn (K : PySem.W.Frag) (C : Addr) (sp : Sp) (E : XK) : R2 := fun x y H Q => ∃ a dx fs, x = .ref a ∧ H a = some (.ins C dx fs) ∧
  ((∃ b dy gs, y = .ref b ∧ H b = some (.ins C dy gs)) ∨ ∃ T, TyB K H y T ∧ PySem.W.notFirst K C (.type T) = true) ∧ sp [x, y] H Q E
theorem op_eqOwn {CX : CXT} {C g : Addr} {n : Nat} {sp : Sp} {E : XK} (hs : PySem.W.findIn X.K (.ref C) "__eq__" = some (some (.ref g))) (hf : PySem.W.isFn X.K (.ref g) = true)
    (F : FnR X.prog X.w X.K X.mg X.base CX n g sp) (hr : Room n X.A) (hx : Passes CX X E) : OpR X (compareOp .Eq) (rEqOwn X.K C sp E) := by
  intro pins s σ H x y v u Q I rx ry h
  obtain ⟨a, dx, fs, rfl, ha, hy, q⟩ := h
  cases (show v = Value.ref a from rx)
  obtain ⟨mA, O, _⟩ := ins_get I.hok ha
  obtain ⟨od, J, _⟩ := O.look
  obtain ⟨m, hF⟩ := I.fr
  show wpAny (model X.prog X.w) X.A (richCompare .Eq (.ref a) u) (EP X pins σ Q) X.xe s
  have fin : wpAny (model X.prog X.w) X.A (call (.ref g) [.ref a, u]) (PySem.W.CmpBack (EP X pins σ Q)) X.xe s := by
    refine wpAny_mono (wpAny_call (run_fnR (us := [.ref a, u]) (vs := [.ref a, y]) F hr hx I (.cons rfl (.cons ry .nil)) q)) (fun w s' z => ?_) fun _ _ x => x
    obtain ⟨z', H', I', rz, qz⟩ := z
    exact SlX.cmpback rz ⟨z', H', I', rz, qz⟩
  rcases hy with ⟨b, dy, gs, rfl, hb⟩ | ⟨T, ty, nf⟩
  · cases (show u = Value.ref b from ry)
    obtain ⟨mB, O2, _⟩ := ins_get I.hok hb
    obtain ⟨od2, J2, _⟩ := O2.look
    exact PySem.W.cmp_K (op := .Eq) (tb := .ref C) hr.units0 hF I.ok.mod.kin J J2.type (by simp [PySem.W.notFirst]) hs hf fin
  · exact PySem.W.cmp_K (op := .Eq) (tb := .type T) hr.units0 hF I.ok.mod.kin J (looks_ty (ty.is I ry)) nf hs hf fin
theorem nf_str {K : PySem.W.Frag} {C : Addr} : PySem.W.notFirst K C (.type "str") = true := by rfl
theorem nf_tup {K : PySem.W.Frag} {C : Addr} : PySem.W.notFirst K C (.type "tuple") = true := by rfl
end
end Vx
namespace Vx
open PySem PySem.Spec PyProof.Rows L2
/-! ### set(xs) of a list of ints -/
abbrev bareSet (w : World) : Obj := { cls := .type "set", dict := none, data := .set #[] 0 (.fresh 0 0 (!w.params.followText "set-order")) }
section
variable {P : Program} {w : World} {A : Around} {E : Value → Shared → Prop} {s : Shared}
theorem set_of_list {l : Addr} {its : Array Value} (ns : List Int) {Q : Value → Shared → Prop} (calm : A.handled = none) (hl : s.heap.IsList l its) (hi : IntsAre its.toList ns) (room : ns.length + 1 < scanBound)
    (k : ∀ (g : Heap) (t c : Nat), SetR w g s.heap.objs.size (fun j => decide (j ∈ ns)) c → c ≤ ns.length → (∀ b o, s.heap.get? b = some o → g.get? b = some o) → Q (.ref s.heap.objs.size) { s with heap := g, toks := t }) :
    wpAny (model P w) A (call (.type "set") [.ref l]) Q E s := by
  have len : its.size = ns.length := by
    have z := IntsAre.length hi
    rwa [Array.length_toList] at z
  obtain ⟨c0, tl, hmro⟩ := F.called_set.mro
  have hmade := F.called_set.made
  have hsub := F.called_set.sub
  refine wpAny_call (codeAny_of_tree ?_)
  show wpAny _ _ (callAny (.type "set") _) _ _ _
  refine wpAny_pure ⟨Code.quiet_builtin _ (by decide +kernel), codeAny_builtin F.entry_type_call ?_⟩
  rw [Around.under_plain (weight_type_call_type "set" [.ref l] []) rfl]
  have n1 := F.called_set.notType
  have n2 := F.called_set.canCreate
  have n3 := F.typeCall_set_1 (.ref l)
  repeat (any_goals (first | assumption | wp_step))
  refine codeAny_mono (code_set_led1 (.ref l) (E := E) (Q₁ := fun ob s1 => ob = .ref s.heap.objs.size ∧ s1 = { s with heap := s.heap.push (bareSet w) }) ⟨rfl, rfl⟩) fun r s1 hr => ?_
  rcases r with e | fl
  · exact hr
  cases fl with
  | ret ob =>
    obtain ⟨rfl, rfl⟩ := hr
    have at0 : (s.heap.push (bareSet w)).get? s.heap.objs.size = some (bareSet w) := Heap.get?_push_size _ rfl
    have ty0 : Shared.TypeIs { s with heap := s.heap.push (bareSet w) } (.ref s.heap.objs.size) "set" := ⟨_, at0, rfl⟩
    have i1 := F.called_set.init.lookup
    have i2 := F.called_set.init.bind (.ref s.heap.objs.size)
    repeat (any_goals (first | assumption | wp_step))
    refine codeAny_mono (codeAny_call_builtin (R := wants (fun v s2 => v = .none ∧ ∃ g t c, s2 = { s with heap := g, toks := t } ∧ SetR w g s.heap.objs.size (fun j => decide (j ∈ ns)) c ∧ c ≤ ns.length ∧
        (∀ b o, s.heap.get? b = some o → g.get? b = some o)) E) F.called_set.init.plain F.entry_set_init (check_set_init_1 ty0 ?_)) fun r2 s2 hr2 => ?_
    · obtain ⟨⟨oc, od, ob, osl⟩, hol, hcl, nl, hdl⟩ := hl
      simp only at hcl hdl
      subst hcl hdl
      have at1 : (s.heap.push (bareSet w)).get? l = some { cls := .type "list", dict := od, data := .seq its nl, slots := osl } := Heap.get?_push_of_some _ hol
      have q1 := F.sub_list_set
      have q2 := F.sub_list_frozenset
      have q3 : (Value.type "list" == Value.type "dict") = false := by decide
      have isl : (s.heap.push (bareSet w)).IsList l its := ⟨_, at1, rfl, nl, rfl⟩
      unfold Builtin.«set.__init__» noKeywords Builtin.Frozenset.updateFrom
      generalize hPI : pyIter = PI
      wp_walk
      subst hPI
      refine wpAny_pyIter_list isl ?_
      refine wpAny_bind (wpAny_runValue ?_)
      have lS : l < s.heap.objs.size := Heap.lt_size hol
      have calm3 : A.in1.in1.in1.handled = none := by simp [calm]
      have neI : l ≠ (s.heap.push (bareSet w)).objs.size := by
        rw [Heap.size_push]
        exact Nat.ne_of_lt (Nat.lt_succ_of_lt lS)
      have noS : s.heap.objs.size ∉ [(s.heap.push (bareSet w)).objs.size, l] := by
        rw [Heap.size_push]
        simp only [List.mem_cons, List.mem_singleton, List.not_mem_nil, or_false, not_or]
        exact ⟨Nat.ne_of_lt (Nat.lt_succ_self _), Nat.ne_of_gt lS⟩
      have item : ∀ (i : Nat) (v : Value), its[i]? = some v → ∃ m t, ns[i]? = some m ∧ v = .int m t := fun i v hv => by
        have li : i < ns.length := by rw [← len]; exact (Array.getElem?_eq_some_iff.mp hv).1
        obtain ⟨t, e⟩ := PyProof.Rows.IntsAre.int_at hi i v (by rw [Array.getElem?_toList]; exact hv)
        refine ⟨ns[i], t, List.getElem?_eq_getElem li, ?_⟩
        rw [e, List.getD_eq_getElem?_getD, List.getElem?_eq_getElem li]
        rfl
      refine set_update_ints ((Walks.list calm3 _ l neI its).toS) s.heap.objs.size noS ns len room item (its.size - 0) 0 _ (by omega) (Nat.zero_le _) ⟨⟨_, Heap.get?_push_size _ rfl, rfl, rfl⟩, (isl.push _)⟩ ?s0 ?fin
      case s0 => exact ⟨0, Nat.le_refl 0, setR_new_at (Heap.get?_push_of_some _ at0)⟩
      case fin =>
        intro s3 c3 mv hc3 hS3
        obtain ⟨g3, ge, dr, t3, os3⟩ := s3
        cases (show ge = s.gens from mv.gens)
        cases (show dr = s.drawn from mv.drawn)
        cases (show os3 = s.os from mv.os)
        show wpAny _ _ _ _ _ _
        refine wpAny_pure ?_
        show wpAny _ _ (ret Value.none) _ _ _
        rw [len] at hc3
        refine wpAny_pure ⟨rfl, g3, t3, c3, rfl, hS3, hc3, fun b o e => ?_⟩
        have b0 : b < s.heap.objs.size := Heap.lt_size e
        have b2 : b ≠ (s.heap.push (bareSet w)).objs.size := by
          rw [Heap.size_push]
          exact Nat.ne_of_lt (Nat.lt_succ_of_lt b0)
        exact mv.heap b o (by simp only [List.mem_cons, List.mem_singleton, List.not_mem_nil, or_false, not_or]; exact ⟨Nat.ne_of_lt b0, b2⟩) (Heap.get?_push_of_some _ (Heap.get?_push_of_some _ e))
    · rcases r2 with e | fl2
      · exact hr2
      cases fl2 with
      | ret v =>
        obtain ⟨rfl, g, t, c, rfl, hS, hc, hk⟩ := hr2
        repeat (any_goals (first | assumption | wp_step))
        exact k _ _ _ hS hc hk
      | _ => exact hr2.elim
  | _ => exact hr.elim
end
section
variable {X : Cx}
theorem cr_setL (hc : X.calm = true) : CallR X (.type "set") (fun vs H Q => ∃ (l : Addr) (ns : List Int), vs = [V.ref l] ∧ SqL X.K H l (ns.map V.int) ∧ ns.length + 1 < scanBound ∧
    ∀ p c, H p = none → c ≤ ns.length → Q (.ref p) (upd H p (SetO X.w p (fun j => decide (j ∈ ns)) c))) := by
  intro pins s σ H xs us Q I r h
  obtain ⟨l, ns, rfl, hl, room, q⟩ := h
  rw [Vals.ref1 r]
  obtain ⟨its, rv, pl, hz⟩ := I.list hl
  refine set_of_list ns (I.ok.hd hc) pl.isList (by simpa using ints_of_vals rv) room fun g t c R hc' k => ?_
  have hn : H s.heap.objs.size = none := I.hok.fresh (Nat.le_refl _)
  exact ⟨.ref _, _, I.laid (a := s.heap.objs.size) (t' := t) k (Nat.le_refl _) (setO_new R), rfl, q _ c hn hc'⟩
end
end Vx
namespace Vx
open PySem PySem.Spec PyProof.Rows L2
/-! ### ascending lists -/
theorem asc_eq : ∀ {l m : List Int}, l.Pairwise (· < ·) → m.Pairwise (· < ·) → (∀ k, k ∈ l ↔ k ∈ m) → l = m
  | [], [], _, _, _ => rfl
  | [], y :: m, _, _, h => absurd ((h y).mpr List.mem_cons_self) (by simp)
  | x :: l, [], _, _, h => absurd ((h x).mp List.mem_cons_self) (by simp)
  | x :: l, y :: m, hl, hm, h => by
    obtain ⟨h1, h2⟩ := List.pairwise_cons.mp hl
    obtain ⟨h3, h4⟩ := List.pairwise_cons.mp hm
    have e : x = y := by
      rcases List.mem_cons.mp ((h x).mp List.mem_cons_self) with e | e
      · exact e
      · rcases List.mem_cons.mp ((h y).mpr List.mem_cons_self) with e2 | e2
        · exact e2.symm
        · have a := h3 _ e
          have b := h1 _ e2
          omega
    subst e
    rw [asc_eq h2 h4 fun k => ?_]
    have q := h k
    constructor
    · intro hk
      rcases List.mem_cons.mp (q.mp (List.mem_cons_of_mem _ hk)) with e | e
      · exact absurd (h1 _ hk) (by omega)
      · exact e
    · intro hk
      rcases List.mem_cons.mp (q.mpr (List.mem_cons_of_mem _ hk)) with e | e
      · exact absurd (h3 _ hk) (by omega)
      · exact e
/-! ### data -/
theorem eqvAll_ints : ∀ (l m : List Int), PyData.eqvAll (l.map PyData.int) (m.map PyData.int) = decide (l = m)
  | [], [] => by simp [PyData.eqvAll]
  | [], y :: m => by simp [PyData.eqvAll]
  | x :: l, [] => by simp [PyData.eqvAll]
  | x :: l, y :: m => by
    show (PyData.eqv (.int x) (.int y) && PyData.eqvAll (l.map PyData.int) (m.map PyData.int)) = _
    rw [eqvAll_ints l m]
    show ((x == y) && decide (l = m)) = _
    by_cases e : x = y <;> by_cases e2 : l = m <;> simp [e, e2]
theorem eqv_tupI (l m : List Int) : PyData.eqv (.tuple (l.map PyData.int)) (.tuple (m.map PyData.int)) = decide (l = m) := eqvAll_ints l m
theorem eqv_lstI (l m : List Int) : PyData.eqv (.list (l.map PyData.int)) (.list (m.map PyData.int)) = decide (l = m) := eqvAll_ints l m
theorem dpAll_ints {K : PySem.W.Frag} {H : Hp} : ∀ l : List Int, DpAll K H (l.map V.int) (l.map PyData.int)
  | [] => .nil
  | x :: l => .cons (.int x) (dpAll_ints l)
theorem dp_tupI {K : PySem.W.Frag} {H : Hp} {a : Addr} {l : List Int} (h : SqT K H a (l.map V.int)) : Dp K H (.ref a) (.tuple (l.map PyData.int)) := .tup h (dpAll_ints l)
theorem dp_lstI {K : PySem.W.Frag} {H : Hp} {a : Addr} {l : List Int} (h : SqL K H a (l.map V.int)) : Dp K H (.ref a) (.list (l.map PyData.int)) := .lst h (dpAll_ints l)
theorem inV_ints (x : Int) : ∀ l : List Int, inV (.int x) (l.map V.int) = decide (x ∈ l)
  | [] => by simp [inV]
  | y :: l => by
    have ih := inV_ints x l
    unfold inV at ih ⊢
    rw [List.map_cons, List.any_cons, ih]
    show ((y == x) || decide (x ∈ l)) = _
    by_cases e : y = x
    · simp [e]
    · have e' : ¬ x = y := fun z => e z.symm
      simp [e, e']
theorem flat_ints (l : List Int) : (l.map V.int).all flatV = true := by
  rw [List.all_map]
  exact List.all_eq_true.mpr fun _ _ => rfl
end Vx
namespace Vx
open PySem PySem.Spec PyProof.Rows L2
theorem canAll_ints : ∀ l : List Int, PyData.canLayAll0 (l.map PyData.int) = true
  | [] => by simp [PyData.canLayAll0]
  | x :: l => by
    rw [List.map_cons]
    simp [PyData.canLayAll0, PyData.canLay0, canAll_ints l]
theorem depAll_ints : ∀ l : List Int, PyData.depthAll (l.map PyData.int) = 0
  | [] => by simp [PyData.depthAll]
  | x :: l => by
    rw [List.map_cons]
    simp [PyData.depthAll, PyData.depth, depAll_ints l]
theorem shaped_tupI (l : List Int) : SeqAt.shaped (.tuple (l.map PyData.int)) = true := by
  unfold SeqAt.shaped
  simp [PyData.canLay0, PyData.depth, canAll_ints, depAll_ints]
theorem shaped_lstI (l : List Int) : SeqAt.shaped (.list (l.map PyData.int)) = true := by
  unfold SeqAt.shaped
  simp [PyData.canLay0, PyData.depth, canAll_ints, depAll_ints]
theorem tyesT {σ : L2.St} {H : Hp} {A B : Hp → Prop} (h : A H) : tYes σ H (fun b H3 => if b = true then A H3 else B H3) := h
theorem item_ints {xs : List Int} {i : Nat} {x : V} (h : (xs.map V.int)[i]? = some x) : ∃ z, x = .int z ∧ xs[i]? = some z ∧ z ∈ xs := by
  rw [List.getElem?_map] at h
  cases e : xs[i]? with
  | none => rw [e] at h; cases h
  | some z =>
    rw [e] at h
    exact ⟨z, (Option.some.inj h).symm, rfl, List.mem_of_getElem? e⟩
theorem at_ints {xs : List Int} {k : Int} (h0 : 0 ≤ k) (h1 : k < (xs.length : Int)) : ∃ z, z ∈ xs ∧ atI (xs.map V.int) k = some (.int z) := by
  have hj : k.toNat < xs.length := by omega
  refine ⟨xs[k.toNat], List.getElem_mem hj, ?_⟩
  refine at_of (j := k.toNat) (by omega) ?_
  rw [List.getElem?_map, List.getElem?_eq_getElem hj]
  rfl
theorem mem_ins {ys : List Int} {j : Nat} {y k : Int} (hy : y ∈ ys) : k ∈ ys.take j ++ [y] ++ ys.drop j ↔ k ∈ ys := by
  have e : k ∈ ys ↔ k ∈ ys.take j ∨ k ∈ ys.drop j := by rw [← List.mem_append, List.take_append_drop]
  rw [List.mem_append, List.mem_append, List.mem_singleton, e]
  constructor
  · rintro ((h | h) | h)
    · exact .inl h
    · subst h
      exact e.mp hy
    · exact .inr h
  · rintro (h | h)
    · exact .inl (.inl h)
    · exact .inr h
theorem madeS {C : Addr} {H : Hp} {x dx : Addr} (nx : H x = none) (nd : H dx = none) : Same H (upd (upd H dx (.own x)) x (.ins C dx [])) := fun b o e => by
  rw [upd_ne (ne_of_none e nx), upd_ne (ne_of_none e nd)]
  exact e
theorem pe_gcx {X : Cx} {x : Str} {pos : Pos} {v : V} (hg : Gl X x) (h : ∃ u, X.mg x = some u ∧ RelV v u) (hd : (x == ("__debug__" : Str)) = false := by decide +kernel) : PE X (.Name x pos) (tC v) := by
  obtain ⟨u, h, r⟩ := h
  exact pe_glob hg h r hd
theorem call_intB {X : Cx} : CallR X (.type "int") (fun xs H Q => ∃ k, xs = [.bl k] ∧ Q (.int (if k = true then 1 else 0)) H) := fun pins s σ H xs us Q I r h => call_int1 pins s σ H xs us Q I r (.inr h)
theorem cut_lo_len (z : Str) {k : Int} (h : 0 ≤ k) : (cutS z none (some k)).length ≤ k.toNat := by
  show (List.toArray _).size ≤ _
  rw [List.size_toArray, List.length_take]
  show min (HT.sIx z.length z.length (some k) - 0) _ ≤ _
  have e : HT.sIx z.length z.length (some k) = min k.toNat z.length := by
    show (if k < 0 then (k + (z.length : Int)).toNat else min k.toNat z.length) = _
    rw [if_neg (by omega)]
  omega
theorem cut_hi_len (z : Str) {k : Int} (h : 0 ≤ k) : (cutS z (some k) none).length ≤ z.length - k.toNat := by
  show (List.toArray _).size ≤ _
  have e : HT.sIx z.length 0 (some k) = min k.toNat z.length := by
    show (if k < 0 then (k + (z.length : Int)).toNat else min k.toNat z.length) = _
    rw [if_neg (by omega)]
  rw [List.size_toArray, List.length_take, List.length_drop, e]
  show min (z.length - min k.toNat z.length) (z.cps.toList.length - min k.toNat z.length) ≤ _
  have : z.cps.toList.length = z.length := Array.length_toList
  omega
end Vx
namespace Vx
open PySem PySem.Spec PyProof.Rows L2
/-! ### pairs and lists of them -/
abbrev Pr := Int × Int
def pr (l : List Int) : Pr := (l.getD 0 0, l.getD 1 0)
def Cells (H : Hp) (l : Addr) (ps : List Pr) : Prop :=
  ∃ ts : List (Addr × Pr), H l = some (.lst (ts.map fun t => V.ref t.1)) ∧ (∀ t ∈ ts, H t.1 = some (.tup [.int t.2.1, .int t.2.2])) ∧ ts.map (·.2) = ps
theorem Cells.up {H H' : Hp} {l : Addr} {ps : List Pr} (e : Same H H') (h : Cells H l ps) : Cells H' l ps := by
  obtain ⟨ts, h1, h2, h3⟩ := h
  exact ⟨ts, e _ _ h1, fun t m => e _ _ (h2 t m), h3⟩
def SetP (P : Program) (w : World) (H : Hp) (a : Addr) (ps : List Pr) : Prop :=
  ∃ L : List (Addr × List Int), H a = some (SetTO P w a L) ∧ (∀ q ∈ L, q.2.length = 2 ∧ H q.1 = some (.tup (q.2.map V.int))) ∧ ∀ x, x ∈ L.map (fun q => pr q.2) ↔ x ∈ ps
abbrev ltP (p q : Pr) : Prop := SrtO.lexB p q = true
theorem pr_inj : ∀ {l m : List Int}, l.length = 2 → m.length = 2 → pr l = pr m → l = m
  | [a, b], [c, d], _, _, h => by
    have h1 : a = c := congrArg Prod.fst h
    have h2 : b = d := congrArg Prod.snd h
    rw [h1, h2]
theorem len2 : ∀ {l : List Int}, l.length = 2 → l = [(pr l).1, (pr l).2]
  | [a, b], _ => rfl
section
variable {P : Program} {w : World} {A : Around} {E : Value → Shared → Prop} {s : Shared}
def adr : Value → Addr
  | .ref a => a
  | _ => 0
/-- the set's members, sorted -/
theorem sorted_pairs {a : Addr} {L : List (Addr × List Int)} {es : Array (Int × Value)} {ep : Nat} {t : SetTable} {Q : Value → Shared → Prop} (R : SetTR P w s.heap a L es ep t) (hh : A.handled = none) (h2 : ∀ q ∈ L, q.2.length = 2)
    (hQ : ∀ s' p (ts : List (Addr × Pr)) (c : Nat), (∀ b o, s.heap.get? b = some o → s'.heap.get? b = some o) → s'.gens = s.gens → s'.os = s.os → s.heap.objs.size ≤ p →
      s'.heap.get? p = some (seqObj "list" (ts.map fun q => Value.ref q.1).toArray c) → (∀ q ∈ ts, ∃ r ∈ L, r.1 = q.1 ∧ pr r.2 = q.2) → (∀ x, x ∈ ts.map (·.2) ↔ x ∈ L.map fun q => pr q.2) → (ts.map (·.2)).Pairwise ltP → ts.length = L.length → Q (.ref p) s') :
    wpAny (model P w) A (call (.builtin "sorted") [.ref a]) Q E s := by
  have few := R.few
  obtain ⟨o, go, xo, dat⟩ := R.ob
  refine Calls.call_function_entry kind_sorted plain_sorted entry_sorted (args_sorted1 _) ?_
  unfold Builtin.«sorted»
  refine wpAny_bind (m := checkCount "sorted" 1 1 _) (wpAny_pure ?_)
  refine wpAny_bind (collect_set (A := A.in1) hh ⟨o, go, xo.1, dat⟩ R.fits (by rw [R.size]; unfold scanBound; omega) R.tab.ris R.led fun s1 vs keep sz gg oo pm => ?_)
  have em : es.toList.map (·.2) = L.map fun q => Value.ref q.1 := by
    rw [R.rows]
    show (L.map fun q => (thash P w q.2, Value.ref q.1)).map (·.2) = _
    rw [List.map_map] <;> rfl
  rw [em] at pm
  have vl : vs.length = L.length := by rw [pm.length_eq, List.length_map]
  have lim : vs.length ≤ sizeLine := by
    rw [sizeLine_eq]
    omega
  refine wpAny_bind (wpAny_newList ?_ lim)
  have gl : (s1.heap.push (seqObj "list" vs.toArray 0)).get? s1.heap.objs.size = some (seqObj "list" vs.toArray 0) := Heap.get?_push_size _ rfl
  generalize hh1 : s1.heap.push (seqObj "list" vs.toArray 0) = h1 at gl
  have keep1 : ∀ b u, s1.heap.get? b = some u → h1.get? b = some u := fun b u e => by
    rw [← hh1]
    exact Heap.get?_push_of_some _ e
  have tin : ∀ q ∈ L, TS.TupInts h1 (.ref q.1) q.2 := fun q m => tupInts_of (P := P) (w := w) (isT_keep (R.tup q m) fun b u e => keep1 b u (keep b u e))
  have mem : ∀ v ∈ vs, ∃ q ∈ L, v = Value.ref q.1 := fun v m => by
    obtain ⟨q, m1, e⟩ := List.mem_map.mp (pm.mem_iff.mp m)
    exact ⟨q, m1, e.symm⟩
  have key : ∀ q ∈ L, pr (TS.intsOf h1 (.ref q.1)) = pr q.2 := fun q m => by rw [(tin q m).ints]
  have isP : ∀ v ∈ vs, Srt.IsPair h1 v (pr (TS.intsOf h1 v)).1 (pr (TS.intsOf h1 v)).2 := fun v m => by
    obtain ⟨q, m1, rfl⟩ := mem v m
    rw [key q m1]
    have i := tin q m1
    have l2 := len2 (h2 q m1)
    rw [l2] at i
    obtain ⟨b, items, eb, ⟨o1, go1, co1, n1, do1⟩, ia⟩ := i
    cases eb
    obtain ⟨xs⟩ := items
    cases ia with
    | cons _ t1 ia =>
      cases ia with
      | cons _ t2 ia =>
        cases ia
        exact ⟨_, o1, t1, t2, n1, rfl, go1, co1, do1⟩
  refine wpAny_bind (wpAny_holding (wpAny_call_entry (s := { s1 with heap := h1 }) slot_list_sort ⟨_, gl, rfl⟩ entry_list_sort (SrtO.list_sort_ord (s := { s1 with heap := h1 }) (SrtO.swo_lex fun v => pr (TS.intsOf h1 v)) gl lim (fun two => SrtO.pairs_sortableO (by omega) isP fun o1 e => ?_) fun out srt stb => ⟨_, rfl, ?_⟩) (args_list_sort _)))
  · have e' : some o1 = some (seqObj "list" vs.toArray 0) := e.symm.trans gl
    cases e'
    intro c
    exact absurd (Value.type.inj c) (by decide)
  · obtain ⟨c, gc⟩ := sortedHeap_at (vs := vs) (out := out.toArray) gl
    have omem : ∀ v ∈ out, ∃ q ∈ L, v = Value.ref q.1 := fun v m => mem v (stb.perm.mem_iff.mp m)
    refine wpAny_pure ⟨_, rfl, hQ _ s1.heap.objs.size (out.map fun v => (adr v, pr (TS.intsOf h1 v))) c (fun b u e => ?_) gg oo sz ?_ ?_ ?_ ?_ ?_⟩
    · have g1 := keep b u e
      have lt1 := Heap.lt_size g1
      show (sortedHeap h1 s1.heap.objs.size vs out.toArray).get? b = some u
      rw [sortedHeap_old (Nat.ne_of_lt lt1) (Heap.lt_size (keep1 b u g1))]
      exact keep1 b u g1
    · have eo : (out.map fun v => (adr v, pr (TS.intsOf h1 v))).map (fun q => Value.ref q.1) = out := by
        rw [List.map_map]
        refine (List.map_congr_left fun v m => ?_).trans (List.map_id _)
        obtain ⟨q, _, rfl⟩ := omem v m
        rfl
      rw [eo]
      exact gc
    · intro q m
      obtain ⟨v, m1, rfl⟩ := List.mem_map.mp m
      obtain ⟨r, mr, rfl⟩ := omem v m1
      exact ⟨r, mr, rfl, (key r mr).symm⟩
    · intro x
      rw [List.map_map]
      constructor
      · intro m
        obtain ⟨v, m1, rfl⟩ := List.mem_map.mp m
        obtain ⟨r, mr, rfl⟩ := omem v m1
        exact List.mem_map.mpr ⟨r, mr, (key r mr).symm⟩
      · intro m
        obtain ⟨r, mr, rfl⟩ := List.mem_map.mp m
        exact List.mem_map.mpr ⟨.ref r.1, stb.perm.mem_iff.mpr (pm.mem_iff.mpr (List.mem_map.mpr ⟨r, mr, rfl⟩)), key r mr⟩
    · rw [List.map_map]
      have nd : ((L.map fun q => Value.ref q.1).map fun v => pr (TS.intsOf h1 v)).Nodup := by
        rw [List.map_map]
        refine List.pairwise_map.mpr ((List.pairwise_map.mp R.nd).imp_of_mem fun {q r} mq mr ne e => ne ?_)
        refine pr_inj (h2 q mq) (h2 r mr) ?_
        rw [← key q mq, ← key r mr]
        exact e
      have nd2 : (out.map fun v => pr (TS.intsOf h1 v)).Nodup := ((stb.perm.trans pm).map _).nodup_iff.mpr nd
      refine List.pairwise_map.mpr ((srt.and (List.pairwise_map.mp nd2)).imp fun {u v} h => ?_)
      have a1 := SrtO.lexB_no.mp h.1
      refine SrtO.lexB_iff.mpr ?_
      have a2 : ¬ ((pr (TS.intsOf h1 u)).1 = (pr (TS.intsOf h1 v)).1 ∧ (pr (TS.intsOf h1 u)).2 = (pr (TS.intsOf h1 v)).2) := fun e => h.2 (Prod.ext e.1 e.2)
      show (pr (TS.intsOf h1 u)).1 < (pr (TS.intsOf h1 v)).1 ∨ (pr (TS.intsOf h1 u)).1 = (pr (TS.intsOf h1 v)).1 ∧ (pr (TS.intsOf h1 u)).2 < (pr (TS.intsOf h1 v)).2
      omega
    · rw [List.length_map, stb.perm.length_eq, vl]
end
section
variable {X : Cx}
theorem cr_setP (hc : X.calm = true) (hu : X.A.units + 64 < cLine) : CallR X (.type "set") (fun xs H Q => ∃ l ps, xs = [V.ref l] ∧ Cells H l ps ∧ ps.length < 64 ∧
    ∀ a H', Same H H' → H a = none → SetP X.prog X.w H' a ps → Q (.ref a) H') := by
  intro pins s σ H xs us Q I r h
  obtain ⟨l, ps, rfl, ⟨ts, hl, ht, rfl⟩, few, q⟩ := h
  rw [List.length_map] at few
  refine cr_setOfT hc hu pins s σ H [V.ref l] us Q I r ⟨l, ts.map fun t => (t.1, [t.2.1, t.2.2]), rfl, ?_, ?_, by rw [List.length_map]; exact few, fun a L n sub all => ?_⟩
  · rw [List.map_map]
    exact lst_of hl
  · intro p m
    obtain ⟨t, m1, rfl⟩ := List.mem_map.mp m
    exact tup_of (ht t m1)
  · refine q a _ (newS n) n ⟨L, upd_same, fun p m => ?_, fun x => ⟨fun m => ?_, fun m => ?_⟩⟩
    · obtain ⟨t, m1, rfl⟩ := List.mem_map.mp (sub p m)
      exact ⟨rfl, newS n _ _ (ht t m1)⟩
    · obtain ⟨p, m1, rfl⟩ := List.mem_map.mp m
      obtain ⟨t, m2, rfl⟩ := List.mem_map.mp (sub p m1)
      exact List.mem_map.mpr ⟨t, m2, rfl⟩
    · obtain ⟨t, m1, rfl⟩ := List.mem_map.mp m
      obtain ⟨p, m2, e⟩ := List.mem_map.mp (all _ (List.mem_map.mpr ⟨t, m1, rfl⟩))
      refine List.mem_map.mpr ⟨p, m2, ?_⟩
      rw [e]
      rfl
theorem cr_sortedP (hc : X.calm = true) : CallR X (.builtin "sorted") (fun xs H Q => ∃ a ps, xs = [V.ref a] ∧ SetP X.prog X.w H a ps ∧
    ∀ p H' qs, Same H H' → H p = none → Cells H' p qs → qs.Pairwise ltP → (∀ x, x ∈ qs ↔ x ∈ ps) → qs.length < 64 → Q (.ref p) H') := by
  intro pins s σ H vs us Q I r h
  obtain ⟨a, ps, rfl, ⟨L, ha, hL, mem⟩, q⟩ := h
  have R0 : SetT0 X.prog X.w s.heap a L := (I.hok a _ ha).1
  obtain ⟨es, ep, t, R⟩ := R0.full fun p hp => I.isT (tup_of (hL p hp).2)
  rw [Vals.ref1 r]
  refine sorted_pairs R (I.ok.hd hc) (fun q m => (hL q m).1) fun s' p ts c k g o hp hg own all pw le => ?_
  have few := R.few
  have lim : (ts.map fun q => V.ref q.1).length ≤ sizeLine := by
    rw [List.length_map, sizeLine_eq]
    omega
  have n : H p = none := I.hok.fresh hp
  have vals : ∀ ts : List (Addr × Pr), Vals (ts.map fun q => V.ref q.1) (ts.map fun q => Value.ref q.1) := fun ts => by
    induction ts with
    | nil => exact .nil
    | cons t ts ih => exact .cons rfl ih
  have J : Inv X pins σ (upd H p (.lst (ts.map fun q => V.ref q.1))) { s with heap := s'.heap, gens := s'.gens, drawn := s'.drawn, toks := s'.toks } :=
    I.call (ch := []) (Un.laid k hp n) (I.hok.laid k hp ⟨lim, _, c, vals ts, hg⟩) (by rw [g]; exact I.bare) (fun _ z => nomatch z)
  have e : s' = { s with heap := s'.heap, gens := s'.gens, drawn := s'.drawn, toks := s'.toks } := by
    obtain ⟨_, _, _, _, _⟩ := s'
    obtain ⟨_, _, _, _, _⟩ := s
    cases o
    rfl
  rw [e]
  have sm : Same H (upd H p (.lst (ts.map fun q => V.ref q.1))) := newS n
  refine ⟨.ref p, _, J, rfl, q p _ (ts.map (·.2)) sm n ⟨ts, upd_same, fun t m => ?_, rfl⟩ pw (fun x => (all x).trans (mem x)) (by rw [List.length_map, le]; exact few)⟩
  obtain ⟨r, mr, e1, e2⟩ := own t m
  have z := sm _ _ (hL r mr).2
  rw [len2 (hL r mr).1, e1, e2] at z
  exact z
end
section
variable {X : Cx}
theorem pg_tupK {K : PySem.W.Frag} {es : List Expr} {k : Nat} {t : TGs} {n : Nat} {pos : Pos} (hK : X.K = K) (hc : X.calm = true) (h : PGs X es t)
    (hn : (assignEach es X.env).length = n := by rfl) (hst : (assignEach es X.env).findIdx? (·.1) = none := by rfl) : PG X (.Tuple es k pos) (gTup K n t) := by
  subst hK
  exact pg_tup hc h hn hst
theorem ix_tupK {K : PySem.W.Frag} (hK : X.K = K) : IxR X (rIxT K) := by
  subst hK
  exact ix_tup
end
/-! ### comprehensions over such a list -/
theorem item_cells {H : Hp} {ts : List (Addr × Pr)} {ps : List Pr} {i : Nat} {x : V} (h : (ts.map fun t => V.ref t.1)[i]? = some x) (e : ts.map (·.2) = ps) :
    ∃ t ∈ ts, x = .ref t.1 ∧ ps[i]? = some t.2 := by
  rw [List.getElem?_map] at h
  cases q : ts[i]? with
  | none => rw [q] at h; cases h
  | some t =>
    rw [q] at h
    refine ⟨t, List.mem_of_getElem? q, (Option.some.inj h).symm, ?_⟩
    rw [← e, List.getElem?_map, q]
    rfl
theorem lc_cells {K : PySem.W.Frag} {l : Addr} {ps : List Pr} {g : TG} {tt : TT} {te : TE} {vs : List Nat} {σ : L2.St} {H1 : Hp} {D : Addr} {Qd : Hp → Prop} (f : Pr → Pr) (hC : Cells H1 l ps) (nD : H1 D = none) (few : ps.length < sizeLine)
    (hs : ∀ (t : Addr) (x : Pr) (H' : Hp) (Po : V → Hp → Prop) (Pn : Hp → Prop), Same H1 H' → H' t = some (.tup [.int x.1, .int x.2]) → (∀ t2, H' t2 = none → Po (.ref t2) (upd H' t2 (.tup [.int (f x).1, .int (f x).2]))) →
      g (.ref t) (wipe σ vs) H' fun σ2 H2 => wipe σ2 vs = wipe σ vs ∧ tt σ2 H2 fun b H3 => if b = true then te σ2 H3 Po else Pn H3)
    (hd : ∀ H', Same H1 H' → Cells H' D (ps.map f) → Qd H') :
    ∃ W : Nat → Nat → Hp → Prop, (∃ m, W 0 m (upd H1 D (.lst []))) ∧ ∀ i m H, W i m H →
      ((Itl K l).stop i H ∧ Qd H) ∨ ((Itl K l).go i H ∧ ∃ Nx : Hp → Prop, (∀ H', Nx H' → ∃ m', m' < m ∧ W (i + 1) m' H') ∧ ∀ x H', (Itl K l).yld i H x H' → g x (wipe σ vs) H' fun σ2 H2 => wipe σ2 vs = wipe σ vs ∧ tt σ2 H2 fun b H3 =>
        if b = true then te σ2 H3 fun y H4 => ∃ acc, H4 D = some (.lst acc) ∧ acc.length < sizeLine ∧ Nx (upd H4 D (.lst (acc ++ [y]))) else Nx H3) := by
  obtain ⟨ts, hl, ht, rfl⟩ := hC
  rw [List.length_map] at few
  refine lc_list (K := K) (a := l) (xs := ts.map fun t => V.ref t.1) (fun i H' => Same H1 H' ∧ ∃ us : List (Addr × Pr), H' D = some (.lst (us.map fun t => V.ref t.1)) ∧ (∀ t ∈ us, H' t.1 = some (.tup [.int t.2.1, .int t.2.2])) ∧ us.map (·.2) = ((ts.map (·.2)).take i).map f)
    ⟨newS nD, [], upd_same, fun _ m => (by cases m), rfl⟩ (fun i H' _ p => lst_of (p.1 _ _ hl)) ?_ ?_
  · rintro i x H' hi ⟨sm, us, h1, h2, h3⟩
    obtain ⟨t, mt, rfl, hp⟩ := item_cells (H := H') hi rfl
    have ul : us.length = i := by
      have z := congrArg List.length h3
      rw [List.length_map, List.length_map, List.length_take, List.length_map] at z
      have := (List.getElem?_eq_some_iff.mp hi).1
      rw [List.length_map] at this
      omega
    refine hs t.1 t.2 H' _ _ sm (sm _ _ (ht t mt)) fun t2 n2 => ⟨us.map fun t => V.ref t.1, ?_, ?_, ?_, us ++ [(t2, f t.2)], ?_, ?_, ?_⟩
    · exact newS n2 _ _ h1
    · rw [List.length_map, ul]
      have := (List.getElem?_eq_some_iff.mp hi).1
      rw [List.length_map] at this
      omega
    · exact mutS (sm.trans (newS n2)) nD
    · rw [upd_same, List.map_append]
      rfl
    · have nD2 : t2 ≠ D := fun e => by
        rw [e, h1] at n2
        cases n2
      intro u m
      rcases List.mem_append.mp m with m | m
      · have z := h2 u m
        rw [upd_ne (fun e => ?_)]
        · exact newS n2 _ _ z
        · rw [e, h1] at z
          cases z
      · rw [List.mem_singleton.mp m, upd_ne nD2, upd_same]
    · rw [List.map_append, h3, take_next hp, List.map_append]
      rfl
  · rintro H' ⟨sm, us, h1, h2, h3⟩
    refine hd H' sm ⟨us, h1, h2, ?_⟩
    rw [h3, List.length_map, List.take_of_length_le (by rw [List.length_map]; exact Nat.le_refl _)]
theorem lc_nums {K : PySem.W.Frag} {l : Addr} {ps : List Pr} {g : TG} {tt : TT} {te : TE} {vs : List Nat} {σ : L2.St} {H1 : Hp} {D : Addr} {Qd : Hp → Prop} (f : Pr → Int) (hC : Cells H1 l ps) (nD : H1 D = none) (few : ps.length < sizeLine)
    (hs : ∀ (t : Addr) (x : Pr) (H' : Hp) (Po : V → Hp → Prop) (Pn : Hp → Prop), Same H1 H' → H' t = some (.tup [.int x.1, .int x.2]) → Po (.int (f x)) H' →
      g (.ref t) (wipe σ vs) H' fun σ2 H2 => wipe σ2 vs = wipe σ vs ∧ tt σ2 H2 fun b H3 => if b = true then te σ2 H3 Po else Pn H3)
    (hd : ∀ H', Same H1 H' → H' D = some (.lst ((ps.map f).map V.int)) → Qd H') :
    ∃ W : Nat → Nat → Hp → Prop, (∃ m, W 0 m (upd H1 D (.lst []))) ∧ ∀ i m H, W i m H →
      ((Itl K l).stop i H ∧ Qd H) ∨ ((Itl K l).go i H ∧ ∃ Nx : Hp → Prop, (∀ H', Nx H' → ∃ m', m' < m ∧ W (i + 1) m' H') ∧ ∀ x H', (Itl K l).yld i H x H' → g x (wipe σ vs) H' fun σ2 H2 => wipe σ2 vs = wipe σ vs ∧ tt σ2 H2 fun b H3 =>
        if b = true then te σ2 H3 fun y H4 => ∃ acc, H4 D = some (.lst acc) ∧ acc.length < sizeLine ∧ Nx (upd H4 D (.lst (acc ++ [y]))) else Nx H3) := by
  obtain ⟨ts, hl, ht, rfl⟩ := hC
  rw [List.length_map] at few
  refine lc_list (K := K) (a := l) (xs := ts.map fun t => V.ref t.1) (fun i H' => Same H1 H' ∧ H' D = some (.lst ((((ts.map (·.2)).take i).map f).map V.int)))
    ⟨newS nD, upd_same⟩ (fun i H' _ p => lst_of (p.1 _ _ hl)) ?_ ?_
  · rintro i x H' hi ⟨sm, h1⟩
    obtain ⟨t, mt, rfl, hp⟩ := item_cells (H := H') hi rfl
    refine hs t.1 t.2 H' _ _ sm (sm _ _ (ht t mt)) ⟨_, h1, ?_, mutS sm nD, ?_⟩
    · rw [List.length_map, List.length_map, List.length_take, List.length_map]
      omega
    · rw [upd_same, take_next hp, List.map_append, List.map_append]
      rfl
  · rintro H' ⟨sm, h1⟩
    rw [List.length_map, List.take_of_length_le (by rw [List.length_map]; exact Nat.le_refl _)] at h1
    exact hd H' sm h1
/-! ### one such list -/
def CanP (ps qs : List Pr) : Prop := qs.Pairwise ltP ∧ ∀ x, x ∈ qs ↔ x ∈ ps
theorem ltP_iff {p q : Pr} : ltP p q ↔ p.1 < q.1 ∨ (p.1 = q.1 ∧ p.2 < q.2) := SrtO.lexB_iff
theorem ascP_eq : ∀ {l m : List Pr}, l.Pairwise ltP → m.Pairwise ltP → (∀ k, k ∈ l ↔ k ∈ m) → l = m
  | [], [], _, _, _ => rfl
  | [], y :: m, _, _, h => absurd ((h y).mpr List.mem_cons_self) (by simp)
  | x :: l, [], _, _, h => absurd ((h x).mp List.mem_cons_self) (by simp)
  | x :: l, y :: m, hl, hm, h => by
    obtain ⟨h1, h2⟩ := List.pairwise_cons.mp hl
    obtain ⟨h3, h4⟩ := List.pairwise_cons.mp hm
    have irr : ∀ a b : Pr, ltP a b → ltP b a → False := fun a b p q => by
      have p := ltP_iff.mp p
      have q := ltP_iff.mp q
      omega
    have e : x = y := by
      rcases List.mem_cons.mp ((h x).mp List.mem_cons_self) with e | e
      · exact e
      · rcases List.mem_cons.mp ((h y).mpr List.mem_cons_self) with e2 | e2
        · exact e2.symm
        · exact (irr _ _ (h3 _ e) (h1 _ e2)).elim
    subst e
    rw [ascP_eq h2 h4 fun k => ?_]
    have q := h k
    constructor
    · intro hk
      rcases List.mem_cons.mp (q.mp (List.mem_cons_of_mem _ hk)) with e | e
      · have z := h1 _ hk
        rw [e] at z
        exact (irr _ _ z z).elim
      · exact e
    · intro hk
      rcases List.mem_cons.mp (q.mpr (List.mem_cons_of_mem _ hk)) with e | e
      · have z := h3 _ hk
        rw [e] at z
        exact (irr _ _ z z).elim
      · exact e
theorem canP_eq {ps qs m : List Pr} (h : CanP ps qs) (h2 : m.Pairwise ltP) (h3 : ∀ k, k ∈ ps ↔ k ∈ m) : qs = m := ascP_eq h.1 h2 fun k => (h.2 k).trans (h3 k)
/-! ### as data -/
def pd (p : Pr) : PyData := .tuple [.int p.1, .int p.2]
theorem eqv_pd (p q : Pr) : PyData.eqv (pd p) (pd q) = decide (p = q) := by
  show ((p.1 == q.1) && ((p.2 == q.2) && true)) = _
  obtain ⟨a, b⟩ := p
  obtain ⟨c, d⟩ := q
  by_cases e1 : a = c <;> by_cases e2 : b = d <;> simp [e1, e2]
theorem eqvAll_pd : ∀ (l m : List Pr), PyData.eqvAll (l.map pd) (m.map pd) = decide (l = m)
  | [], [] => by simp [PyData.eqvAll]
  | [], y :: m => by simp [PyData.eqvAll]
  | x :: l, [] => by simp [PyData.eqvAll]
  | x :: l, y :: m => by
    show (PyData.eqv (pd x) (pd y) && PyData.eqvAll (l.map pd) (m.map pd)) = _
    rw [eqvAll_pd l m, eqv_pd]
    by_cases e : x = y <;> by_cases e2 : l = m <;> simp [e, e2]
theorem eqv_cells (l m : List Pr) : PyData.eqv (.list (l.map pd)) (.list (m.map pd)) = decide (l = m) := eqvAll_pd l m
theorem canAll_pd : ∀ l : List Pr, PyData.canLayAll0 (l.map pd) = true
  | [] => by simp [PyData.canLayAll0]
  | x :: l => by
    rw [List.map_cons]
    simp [PyData.canLayAll0, PyData.canLay0, pd, canAll_pd l]
theorem depAll_pd : ∀ l : List Pr, PyData.depthAll (l.map pd) ≤ 1
  | [] => by simp [PyData.depthAll]
  | x :: l => by
    rw [List.map_cons]
    have := depAll_pd l
    simp only [PyData.depthAll, PyData.depth, pd]
    omega
theorem shaped_cells (l : List Pr) : SeqAt.shaped (.list (l.map pd)) = true := by
  unfold SeqAt.shaped
  have := depAll_pd l
  simp only [PyData.canLay0, PyData.depth, canAll_pd]
  simp
  omega
theorem dp_cells {K : PySem.W.Frag} {H : Hp} {a : Addr} {ps : List Pr} (h : Cells H a ps) : Dp K H (.ref a) (.list (ps.map pd)) := by
  obtain ⟨ts, hl, ht, rfl⟩ := h
  refine .lst (lst_of hl) ?_
  have go : ∀ us : List (Addr × Pr), (∀ t ∈ us, H t.1 = some (.tup [.int t.2.1, .int t.2.2])) → DpAll K H (us.map fun t => V.ref t.1) ((us.map (·.2)).map pd) := fun us => by
    induction us with
    | nil => exact fun _ => .nil
    | cons t us ih => exact fun h => .cons (.tup (tup_of (h t List.mem_cons_self)) (.cons (.int _) (.cons (.int _) .nil))) (ih fun u m => h u (List.mem_cons_of_mem _ m))
  exact go ts ht
/-! ### sorted, of such a list -/
def kH (H : Hp) : V → Pr
  | .ref a => match H a with
    | some (.tup [.int x, .int y]) => (x, y)
    | _ => (0, 0)
  | _ => (0, 0)
def adV : V → Addr
  | .ref a => a
  | _ => 0
theorem kH_at {H : Hp} {a : Addr} {x : Pr} (h : H a = some (.tup [.int x.1, .int x.2])) : kH H (.ref a) = x := by
  show (match H a with
    | some (.tup [.int x, .int y]) => (x, y)
    | _ => (0, 0)) = x
  rw [h]
theorem ltP_irr {a b : Pr} (p : ltP a b) (q : ltP b a) : False := by
  have p := ltP_iff.mp p
  have q := ltP_iff.mp q
  omega
theorem nodup_lt {l : List Pr} (h : l.Pairwise ltP) : l.Nodup := h.imp fun {a b} q e => by
  subst e
  exact ltP_irr q q
theorem cr_sortedC {X : Cx} : CallR X (.builtin "sorted") (fun xs H Q => ∃ l ps, xs = [V.ref l] ∧ Cells H l ps ∧ ps.Nodup ∧
    ∀ p H' qs, Same H H' → H p = none → Cells H' p qs → CanP ps qs → qs.length = ps.length → Q (.ref p) H') := by
  intro pins s σ H xs us Q I r h
  obtain ⟨l, ps, rfl, ⟨ts, hl, ht, rfl⟩, nd, q⟩ := h
  refine cr_sortedPO pins s σ H [V.ref l] us Q I r ⟨l, ts.map fun t => V.ref t.1, kH H, rfl, lst_of hl, fun x m => ?_, fun ys p srt stb n => ?_⟩
  · obtain ⟨t, m1, rfl⟩ := List.mem_map.mp m
    have g := ht t m1
    refine ⟨t.1, rfl, ?_⟩
    rw [kH_at g]
    exact g
  · have own : ∀ y ∈ ys, ∃ t ∈ ts, y = V.ref t.1 := fun y m => by
      obtain ⟨t, m1, e⟩ := List.mem_map.mp (stb.perm.mem_iff.mp m)
      exact ⟨t, m1, e.symm⟩
    have key : ∀ t ∈ ts, kH H (.ref t.1) = t.2 := fun t m => kH_at (ht t m)
    have pm : (ys.map (kH H)).Perm (ts.map (·.2)) := by
      have z := stb.perm.map (kH H)
      rw [List.map_map] at z
      rw [show ts.map (·.2) = ts.map (kH H ∘ fun t => V.ref t.1) from List.map_congr_left fun t m => (key t m).symm]
      exact z
    have sm : Same H (upd H p (.lst ys)) := newS n
    have eo : (ys.map fun v => (adV v, kH H v)).map (fun t => V.ref t.1) = ys := by
      rw [List.map_map]
      refine (List.map_congr_left fun v m => ?_).trans (List.map_id _)
      obtain ⟨t, _, rfl⟩ := own v m
      rfl
    refine q p _ (ys.map (kH H)) sm n ⟨ys.map fun v => (adV v, kH H v), ?_, fun u m => ?_, ?_⟩ ⟨?_, fun x => pm.mem_iff⟩ pm.length_eq
    · rw [eo, upd_same]
    · obtain ⟨v, m1, rfl⟩ := List.mem_map.mp m
      obtain ⟨t, m2, rfl⟩ := own v m1
      refine sm _ _ ?_
      show H t.1 = _
      rw [key t m2]
      exact ht t m2
    · rw [List.map_map]
      rfl
    · have nd2 : (ys.map (kH H)).Nodup := pm.nodup_iff.mpr nd
      refine List.pairwise_map.mpr ((srt.and (List.pairwise_map.mp nd2)).imp fun {u v} h => ?_)
      have a1 := SrtO.lexB_no.mp h.1
      have a2 : ¬ ((kH H u).1 = (kH H v).1 ∧ (kH H u).2 = (kH H v).2) := fun e => h.2 (Prod.ext e.1 e.2)
      refine ltP_iff.mpr ?_
      omega
/-! ### dicts whose keys are such pairs -/
def keyP (x : Pr) : List L2.Key := [Sum.inl x.1, Sum.inl x.2]
theorem keyP_inj {x y : Pr} (h : keyP x = keyP y) : x = y := by
  injection h with h1 h2
  injection h2 with h2 _
  exact Prod.ext (Sum.inl.inj h1) (Sum.inl.inj h2)
def KeysP (kvs : List (List L2.Key × V)) (ps : List Pr) : Prop := kvs.map (·.1) = ps.map keyP ∧ ps.Nodup
theorem KeysP.put {kvs : List (List L2.Key × V)} {ps : List Pr} (h : KeysP kvs ps) (x : Pr) (v : V) :
    ∃ qs, KeysP (putK kvs (keyP x) v) qs ∧ qs.length ≤ ps.length + 1 ∧ ∀ y, y ∈ qs ↔ y ∈ ps ∨ y = x := by
  have mem : (kvs.any fun kv => decide (kv.1 = keyP x)) = true ↔ x ∈ ps := by
    rw [List.any_eq_true]
    constructor
    · rintro ⟨kv, m, e⟩
      have m2 : kv.1 ∈ ps.map keyP := by
        rw [← h.1]
        exact List.mem_map.mpr ⟨kv, m, rfl⟩
      obtain ⟨y, my, ey⟩ := List.mem_map.mp m2
      rw [← keyP_inj (ey.trans (of_decide_eq_true e))]
      exact my
    · intro m
      have m2 : keyP x ∈ kvs.map (·.1) := by
        rw [h.1]
        exact List.mem_map.mpr ⟨x, m, rfl⟩
      obtain ⟨kv, mk, e⟩ := List.mem_map.mp m2
      exact ⟨kv, mk, decide_eq_true e⟩
  by_cases c : x ∈ ps
  · refine ⟨ps, ⟨?_, h.2⟩, by omega, fun y => ⟨.inl, fun z => z.elim id fun e => e ▸ c⟩⟩
    unfold putK
    rw [if_pos (mem.mpr c), List.map_map, ← h.1]
    refine List.map_congr_left fun kv _ => ?_
    show (if kv.1 = keyP x then (kv.1, v) else kv).1 = kv.1
    by_cases e : kv.1 = keyP x
    · rw [if_pos e]
    · rw [if_neg e]
  · refine ⟨ps ++ [x], ⟨?_, ?_⟩, by rw [List.length_append]; exact Nat.le_refl _, fun y => by rw [List.mem_append, List.mem_singleton]⟩
    · unfold putK
      rw [if_neg (fun z => c (mem.mp z)), List.map_append, List.map_append, h.1]
      rfl
    · refine List.pairwise_append.mpr ⟨h.2, List.pairwise_cons.mpr ⟨fun _ m => (by cases m), List.Pairwise.nil⟩, fun a ma b mb e => ?_⟩
      rw [List.mem_singleton.mp mb] at e
      exact c (e ▸ ma)
theorem KeysP.len {kvs : List (List L2.Key × V)} {ps : List Pr} (h : KeysP kvs ps) : kvs.length = ps.length := by
  have z := congrArg List.length h.1
  rw [List.length_map, List.length_map] at z
  exact z
theorem KeysP.at {kvs : List (List L2.Key × V)} {ps : List Pr} (h : KeysP kvs ps) {i : Nat} {k : List L2.Key} {v : V} (e : kvs[i]? = some (k, v)) : ∃ x, ps[i]? = some x ∧ k.map kV = [.int x.1, .int x.2] := by
  have z := congrArg (fun l => l[i]?) h.1
  simp only [List.getElem?_map] at z
  rw [e] at z
  cases q : ps[i]? with
  | none => rw [q] at z; cases z
  | some x =>
    rw [q] at z
    refine ⟨x, rfl, ?_⟩
    have : k = keyP x := Option.some.inj z
    rw [this]
    rfl
/-- the keys of such a dict, listed -/
theorem lc_keysP {d : Addr} {od : Obj} {kvs : List (List L2.Key × V)} {ps : List Pr} {vs : List Nat} {σ : L2.St} {H1 : Hp} {D : Addr} {Qd : Hp → Prop} {g : TG} {tt : TT} {te : TE} (hK : KeysP kvs ps) (hD : H1 d = some (.frz od (.dT kvs))) (nD : H1 D = none) (few : ps.length < sizeLine)
    (hs : ∀ (t : Addr) (x : Pr) (H' : Hp) (Po : V → Hp → Prop) (Pn : Hp → Prop), H' t = some (.tup [.int x.1, .int x.2]) → Po (.ref t) H' →
      g (.ref t) (wipe σ vs) H' fun σ2 H2 => wipe σ2 vs = wipe σ vs ∧ tt σ2 H2 fun b H3 => if b = true then te σ2 H3 Po else Pn H3)
    (hd : ∀ H', Same H1 H' → Cells H' D ps → Qd H') :
    ∃ W : Nat → Nat → Hp → Prop, (∃ m, W 0 m (upd H1 D (.lst []))) ∧ ∀ i m H, W i m H →
      ((Itkt d od kvs).stop i H ∧ Qd H) ∨ ((Itkt d od kvs).go i H ∧ ∃ Nx : Hp → Prop, (∀ H', Nx H' → ∃ m', m' < m ∧ W (i + 1) m' H') ∧ ∀ x H', (Itkt d od kvs).yld i H x H' → g x (wipe σ vs) H' fun σ2 H2 => wipe σ2 vs = wipe σ vs ∧ tt σ2 H2 fun b H3 =>
        if b = true then te σ2 H3 fun y H4 => ∃ acc, H4 D = some (.lst acc) ∧ acc.length < sizeLine ∧ Nx (upd H4 D (.lst (acc ++ [y]))) else Nx H3) := by
  have len := hK.len
  refine lc_it walk_keysT (fun i H' => Same H1 H' ∧ ∃ us : List (Addr × Pr), H' D = some (.lst (us.map fun t => V.ref t.1)) ∧ (∀ t ∈ us, H' t.1 = some (.tup [.int t.2.1, .int t.2.2])) ∧ us.map (·.2) = ps.take i)
    ⟨newS nD, [], upd_same, fun _ m => (by cases m), rfl⟩ (fun i H' _ p => p.1 _ _ hD) ?_ ?_
  · rintro i x H' H2 hi ⟨sm, us, h1, h2, h3⟩ ⟨rfl, k, v, q, e, rfl, hq⟩
    obtain ⟨y, hy, ek⟩ := hK.at e
    rw [ek] at hq
    have ul : us.length = i := by
      have z := congrArg List.length h3
      rw [List.length_map, List.length_take] at z
      omega
    refine hs q y _ _ _ hq ⟨_, h1, ?_, mutS sm nD, us ++ [(q, y)], ?_, ?_, ?_⟩
    · rw [List.length_map]
      omega
    · rw [upd_same, List.map_append]
      rfl
    · intro u m
      have off : ∀ z : Addr × Pr, H2 z.1 = some (.tup [.int z.2.1, .int z.2.2]) → upd H2 D (.lst ((us.map fun t => V.ref t.1) ++ [V.ref q])) z.1 = some (.tup [.int z.2.1, .int z.2.2]) := fun z g => by
        rw [upd_ne (fun e => ?_)]
        · exact g
        · rw [e, h1] at g
          cases g
      rcases List.mem_append.mp m with m | m
      · exact off u (h2 u m)
      · rw [List.mem_singleton.mp m]
        exact off (q, y) hq
    · rw [List.map_append, h3, take_next hy]
      rfl
  · rintro H' ⟨sm, us, h1, h2, h3⟩
    refine hd H' sm ⟨us, h1, h2, ?_⟩
    rw [h3, List.take_of_length_le (by omega)]
/-- such a list outlives a change of an object that is no tuple and not the list -/
theorem Cells.mut {H : Hp} {l d : Addr} {ps : List Pr} {o : HO} (h : Cells H l ps) (ne : l ≠ d) (nt : ∀ xs, H d ≠ some (.tup xs)) : Cells (upd H d o) l ps := by
  obtain ⟨ts, h1, h2, h3⟩ := h
  refine ⟨ts, by rw [upd_ne ne]; exact h1, fun t m => ?_, h3⟩
  rw [upd_ne (fun e => nt _ (e ▸ h2 t m))]
  exact h2 t m
theorem cells_mk {H : Hp} {l : Addr} (us : List (Addr × Pr)) (h : H l = some (.lst (us.map fun t => V.ref t.1))) (ht : ∀ u ∈ us, H u.1 = some (.tup [.int u.2.1, .int u.2.2])) : Cells H l (us.map (·.2)) := ⟨us, h, ht, rfl⟩
def cutT {α : Type} (ts : List α) (lo hi : Option Int) : List α := (ts.drop (HT.sIx ts.length 0 lo)).take (HT.sIx ts.length ts.length hi - HT.sIx ts.length 0 lo)
theorem cutV_map {α : Type} (f : α → V) (ts : List α) (lo hi : Option Int) : cutV (ts.map f) lo hi = (cutT ts lo hi).map f := by
  unfold cutV cutT
  rw [List.length_map, List.map_take, List.map_drop]
theorem cutT_mem {α : Type} {ts : List α} {lo hi : Option Int} {x : α} (h : x ∈ cutT ts lo hi) : x ∈ ts := List.mem_of_mem_drop (List.mem_of_mem_take h)
theorem cutT_len {α : Type} (ts : List α) (lo hi : Option Int) : (cutT ts lo hi).length ≤ ts.length := by
  unfold cutT
  rw [List.length_take, List.length_drop]
  omega
theorem eq_cells {l m : List Pr} (h : l = m) : V.bl (PyData.eqv (.list (l.map pd)) (.list (m.map pd))) = V.bl true := by
  rw [eqv_cells, decide_eq_true h]
theorem ne_cells {l m : List Pr} (h : l = m) : V.bl (!PyData.eqv (.list (l.map pd)) (.list (m.map pd))) = V.bl false := by
  rw [eqv_cells, decide_eq_true h] <;> rfl
theorem pw_map {f : Pr → Pr} (hf : ∀ x y, ltP x y → ltP (f x) (f y)) {l : List Pr} (h : l.Pairwise ltP) : (l.map f).Pairwise ltP := List.pairwise_map.mpr (h.imp fun {x y} q => hf x y q)
theorem nodup_map {f : Pr → Pr} (hf : ∀ x y, f x = f y → x = y) {l : List Pr} (h : l.Nodup) : (l.map f).Nodup := List.pairwise_map.mpr (h.imp fun {x y} q e => q (hf x y e))
theorem mem_map2 {f : Pr → Pr} {l m : List Pr} (h : ∀ x, x ∈ l ↔ x ∈ m) (k : Pr) : k ∈ l.map f ↔ k ∈ m.map f := by
  rw [List.mem_map, List.mem_map]
  exact ⟨fun ⟨x, m1, e⟩ => ⟨x, (h x).mp m1, e⟩, fun ⟨x, m1, e⟩ => ⟨x, (h x).mpr m1, e⟩⟩
theorem wipe2 (σ : L2.St) (i j : Nat) (a b : Option V) : wipe (((wipe σ [i, j]).set i a).set j b) [i, j] = wipe σ [i, j] := by
  refine List.ext_getElem? fun k => ?_
  show ((((((σ.set j none).set i none).set i a).set j b).set j none).set i none)[k]? = ((σ.set j none).set i none)[k]?
  simp only [List.getElem?_set, List.length_set]
  by_cases e1 : i = k <;> by_cases e2 : j = k <;> by_cases e3 : k < σ.length <;> simp [e1, e2, e3]
end Vx
namespace Vx
open PySem PySem.Spec PyProof.Rows L2
section
variable {X : Cx}
/-- xs[j], read for xs[j] op= v -/
theorem pget_list : PGet X (fun o i H Q => ∃ p xs j v, o = .ref p ∧ i = .int ((j : Nat) : Int) ∧ SqL X.K H p xs ∧ xs[j]? = some v ∧ Q v H) := by
  intro pins s σ H o i ov iv Q I ro ri h
  obtain ⟨p, xs, j, v, rfl, rfl, hs, hv, q⟩ := h
  cases ro
  obtain ⟨t, rfl⟩ := ri
  obtain ⟨its, r, pl, hz⟩ := I.list hs
  obtain ⟨w, ew, rw'⟩ := r.get hv
  exact getItem_listL pl.isList (by omega) (by have := line63; have := (List.getElem?_eq_some_iff.mp hv).1; omega) (by simpa using ew) ⟨v, H, I, rw', q⟩
theorem ip_addS : PIp X .Add (fun x y H Q => ∃ i j, x = .str i ∧ y = .str j ∧ i.length + j.length ≤ sizeLine ∧ Q (.str (i ++ j)) H) := fun pins s σ H x y v u Q I r1 r2 h => iop_add_str pins s σ H x y v u Q I r1 r2 h
end
theorem lc_pairs {lo : Int} {n : Nat} {g : TG} {tt : TT} {te : TE} {vs : List Nat} {σ : L2.St} {H1 : Hp} {D : Addr} {Qd : Hp → Prop} (f : Nat → Pr) (nD : H1 D = none) (few : n < sizeLine)
    (hs : ∀ (i : Nat) (H' : Hp) (Po : V → Hp → Prop) (Pn : Hp → Prop), i < n → Same H1 H' → (∀ t2, H' t2 = none → Po (.ref t2) (upd H' t2 (.tup [.int (f i).1, .int (f i).2]))) →
      g (.int (lo + i)) (wipe σ vs) H' fun σ2 H2 => wipe σ2 vs = wipe σ vs ∧ tt σ2 H2 fun b H3 => if b = true then te σ2 H3 Po else Pn H3)
    (hd : ∀ (H' : Hp) (us : List (Addr × Pr)), Same H1 H' → H' D = some (.lst (us.map fun t => V.ref t.1)) → (∀ t ∈ us, H' t.1 = some (.tup [.int t.2.1, .int t.2.2])) → us.map (·.2) = (List.range n).map f → Qd H') :
    ∃ W : Nat → Nat → Hp → Prop, (∃ m, W 0 m (upd H1 D (.lst []))) ∧ ∀ i m H, W i m H →
      ((Itr lo n).stop i H ∧ Qd H) ∨ ((Itr lo n).go i H ∧ ∃ Nx : Hp → Prop, (∀ H', Nx H' → ∃ m', m' < m ∧ W (i + 1) m' H') ∧ ∀ x H', (Itr lo n).yld i H x H' → g x (wipe σ vs) H' fun σ2 H2 => wipe σ2 vs = wipe σ vs ∧ tt σ2 H2 fun b H3 =>
        if b = true then te σ2 H3 fun y H4 => ∃ acc, H4 D = some (.lst acc) ∧ acc.length < sizeLine ∧ Nx (upd H4 D (.lst (acc ++ [y]))) else Nx H3) := by
  refine lc_range (lo := lo) (n := n) (fun i H' => Same H1 H' ∧ ∃ us : List (Addr × Pr), H' D = some (.lst (us.map fun t => V.ref t.1)) ∧ (∀ t ∈ us, H' t.1 = some (.tup [.int t.2.1, .int t.2.2])) ∧ us.map (·.2) = (List.range i).map f)
    ⟨newS nD, [], upd_same, fun _ m => (by cases m), rfl⟩ ?_ ?_
  · rintro i H' hi ⟨sm, us, h1, h2, h3⟩
    have ul : us.length = i := by
      have z := congrArg List.length h3
      rw [List.length_map, List.length_map, List.length_range] at z
      exact z
    refine hs i H' _ _ hi sm fun t2 n2 => ⟨us.map fun t => V.ref t.1, newS n2 _ _ h1, ?_, mutS (sm.trans (newS n2)) nD, us ++ [(t2, f i)], ?_, ?_, ?_⟩
    · rw [List.length_map, ul]
      omega
    · rw [upd_same, List.map_append]
      rfl
    · have nD2 : t2 ≠ D := fun e => by
        rw [e, h1] at n2
        cases n2
      intro u m
      rcases List.mem_append.mp m with m | m
      · have z := h2 u m
        rw [upd_ne (fun e => ?_)]
        · exact newS n2 _ _ z
        · rw [e, h1] at z
          cases z
      · rw [List.mem_singleton.mp m, upd_ne nD2, upd_same]
    · rw [List.map_append, h3, List.range_succ, List.map_append]
      rfl
  · rintro H' ⟨sm, us, h1, h2, h3⟩
    exact hd H' us sm h1 h2 h3
/-- a pair in a list of pairs -/
theorem any_pd (p : Pr) : ∀ ps : List Pr, (ps.map pd).any (fun z => PyData.eqv z (pd p)) = decide (p ∈ ps)
  | [] => by simp
  | q :: ps => by
    rw [List.map_cons, List.any_cons, any_pd p ps, eqv_pd]
    by_cases e : q = p
    · subst e
      simp
    · have e2 : ¬ p = q := fun z => e z.symm
      simp [e, e2]
theorem shaped_pd (p : Pr) : SeqAt.shaped (pd p) = true := by
  unfold SeqAt.shaped pd
  simp [PyData.canLay0, PyData.canLayAll0, PyData.depth, PyData.depthAll]
theorem op_inP {X : Cx} (hu : X.A.units + 65 < cLine) : OpR X (compareOp .In) (fun x y H Q => ∃ (t a : Addr) (p : Pr) (ps : List Pr), x = .ref t ∧ y = .ref a ∧ H t = some (.tup [.int p.1, .int p.2]) ∧ Cells H a ps ∧ Q (.bl (decide (p ∈ ps))) H) := by
  intro pins s σ H x y v u Q I rx ry h
  obtain ⟨t, a, p, ps, rfl, rfl, ht, hc, q⟩ := h
  refine op_inD hu pins s σ H _ _ v u Q I rx ry ⟨pd p, ps.map pd, .tup (tup_of ht) (.cons (.int _) (.cons (.int _) .nil)), dp_cells hc, shaped_pd p, shaped_cells ps, ?_⟩
  rw [any_pd]
  exact q
/-- sorted, of a list of pairs that may hold one several times -/
theorem cr_sortedN {X : Cx} : CallR X (.builtin "sorted") (fun xs H Q => ∃ l ps, xs = [V.ref l] ∧ Cells H l ps ∧
    ∀ p H' qs, Same H H' → H p = none → Cells H' p qs → qs.Perm ps → qs.Pairwise (fun x y => ¬ ltP y x) → Q (.ref p) H') := by
  intro pins s σ H xs us Q I r h
  obtain ⟨l, ps, rfl, ⟨ts, hl, ht, rfl⟩, q⟩ := h
  refine cr_sortedPO pins s σ H [V.ref l] us Q I r ⟨l, ts.map fun t => V.ref t.1, kH H, rfl, lst_of hl, fun x m => ?_, fun ys p srt stb n => ?_⟩
  · obtain ⟨t, m1, rfl⟩ := List.mem_map.mp m
    have g := ht t m1
    refine ⟨t.1, rfl, ?_⟩
    rw [kH_at g]
    exact g
  · have own : ∀ y ∈ ys, ∃ t ∈ ts, y = V.ref t.1 := fun y m => by
      obtain ⟨t, m1, e⟩ := List.mem_map.mp (stb.perm.mem_iff.mp m)
      exact ⟨t, m1, e.symm⟩
    have key : ∀ t ∈ ts, kH H (.ref t.1) = t.2 := fun t m => kH_at (ht t m)
    have pm : (ys.map (kH H)).Perm (ts.map (·.2)) := by
      have z := stb.perm.map (kH H)
      rw [List.map_map] at z
      rw [show ts.map (·.2) = ts.map (kH H ∘ fun t => V.ref t.1) from List.map_congr_left fun t m => (key t m).symm]
      exact z
    have sm : Same H (upd H p (.lst ys)) := newS n
    have eo : (ys.map fun v => (adV v, kH H v)).map (fun t => V.ref t.1) = ys := by
      rw [List.map_map]
      refine (List.map_congr_left fun v m => ?_).trans (List.map_id _)
      obtain ⟨t, _, rfl⟩ := own v m
      rfl
    refine q p _ (ys.map (kH H)) sm n ⟨ys.map fun v => (adV v, kH H v), ?_, fun u m => ?_, ?_⟩ pm ?_
    · rw [eo, upd_same]
    · obtain ⟨v, m1, rfl⟩ := List.mem_map.mp m
      obtain ⟨t, m2, rfl⟩ := own v m1
      refine sm _ _ ?_
      show H t.1 = _
      rw [key t m2]
      exact ht t m2
    · rw [List.map_map]
      rfl
    · refine List.pairwise_map.mpr (srt.imp fun {u v} h z => ?_)
      have h : SrtO.lexB (kH H v) (kH H u) = false := h
      have z : SrtO.lexB (kH H v) (kH H u) = true := z
      rw [h] at z
      cases z
end Vx
namespace Vx
open PySem PySem.Spec PyProof.Rows L2
/-! ### the items of a dict whose keys are tuples -/
section
variable {X : Cx} {pins : List (Addr × Obj)} {σ : L2.St} {H : Hp} {s : Shared} {d : Addr} {o : Obj}
theorem frzT2 {kvs : List (List L2.Key × V)} (I : Inv X pins σ H s) (h : H d = some (.frz o (.dT kvs))) :
    (d == sysModules) = false ∧ s.heap.get? d = some o ∧ o.ExactDict ∧ ∃ (es : Array DictEntry) (ep : Nat), o.data = .dict es ep ∧ es.size = kvs.length ∧
      ∀ (i : Nat) (k : List L2.Key) (v : V), kvs[i]? = some (k, v) → ∃ (en : DictEntry) (q : Addr), es[i]? = some en ∧ en.key = .ref q ∧ H q = some (.tup (k.map kV)) ∧ RelV v en.val := by
  obtain ⟨hd, z, hs, xs, pr, o', es, ep, ho, hx, hdt, he, _⟩ := I.hok d _ h
  have eo : o = o' := Option.some.inj (hd.symm.trans ho)
  subst eo
  refine ⟨hs, hd, hx, es, ep, hdt, (size_of_entries he).trans (Paired.length pr).symm, fun i k v e => ?_⟩
  obtain ⟨b, hb, _, e2, e3⟩ := paired_get pr e
  refine ⟨entryOfKey (tupleKind (mixKind X.prog X.w)) b, b.2.1, ?_, rfl, e2, e3⟩
  rw [entry_at he i, hb]
  rfl
end
/-- its items, each a new pair of the key's tuple and the value -/
def ItiT (d : Addr) (o : Obj) (kvs : List (List L2.Key × V)) : It where
  go i H := H d = some (.frz o (.dT kvs)) ∧ i < kvs.length
  yld i H x H' := ∃ (T : Addr) (k : List L2.Key) (v : V) (q : Addr), kvs[i]? = some (k, v) ∧ x = .ref T ∧ H q = some (.tup (k.map kV)) ∧ H T = none ∧ H' = upd H T (.tup [.ref q, v])
  stop i H := H d = some (.frz o (.dT kvs)) ∧ kvs.length ≤ i
section
variable {P : Program} {w : World} {K : PySem.W.Frag} {d : Addr} {o : Obj} {es : Array DictEntry} {ep : Nat}
theorem turn_itemsT {kvs : List (List L2.Key × V)} {elts : List Expr} {kk : Nat} {tpos : Pos} (it : Addr) (hod : o.data = .dict es ep) :
    Turn P w K (.Tuple elts kk tpos) (ItiT d o kvs) [it] it (fun i h => ∃ ok ov, IsItemIter h it d i kvs.length ep ok ov) where
  mem := List.mem_singleton.mpr rfl
  obj := fun i h st b hb => by
    obtain ⟨ok, ov, e⟩ := st
    rw [List.mem_singleton.mp hb]
    exact ⟨_, e, fun v z => nomatch z⟩
  keep := fun i h h' st k => by
    obtain ⟨ok, ov, e⟩ := st
    exact ⟨ok, ov, k it (List.mem_singleton.mpr rfl) _ e⟩
  item := by
    intro X hP hw hK hc i pins s σ H E I hf st hg
    subst hP hw hK
    obtain ⟨hd, hi⟩ := hg
    obtain ⟨hs, hgd, hx, es', ep', hdt, hsz, ent⟩ := frzT2 I hd
    obtain ⟨rfl, rfl⟩ := dict_ep hod hdt
    obtain ⟨⟨k, v⟩, hkv⟩ : ∃ p, kvs[i]? = some p := ⟨kvs[i], List.getElem?_eq_getElem hi⟩
    obtain ⟨en, q, hen, hkey, hq, rv⟩ := ent i k v hkv
    obtain ⟨ok, ov, he⟩ := st
    have hlt : it < s.heap.objs.size := Heap.lt_size he
    have hi' : i < es'.size := by
      rw [hsz]
      exact hi
    have een : es'[i] = en := by
      rw [Array.getElem?_eq_getElem hi'] at hen
      exact Option.some.inj hen
    rw [← hsz] at he
    refine DT.nextI he ⟨o, hgd, hx, hdt⟩ hi' fun h' ho hT hz hk => ?_
    rw [een, hkey] at ho hT
    refine ⟨_, rfl, wpAny_letOwnedTupleGo_items (s := { s with heap := h' }) ho fun h'' he' sb => ?_⟩
    have hT2 : h''.get? s.heap.objs.size = some { cls := .type "tuple", data := .seq #[.ref q, en.val] } := (sb.2 _ (Nat.ne_of_gt hlt)).trans hT
    have new : ObjOk X.prog X.w (upd H s.heap.objs.size (.tup [.ref q, v])) h'' s.heap.objs.size (.tup [.ref q, v]) :=
      ⟨by show 2 ≤ sizeLine; decide, [.ref q, en.val], .cons rfl (.cons rv .nil), ⟨_, hT2, rfl, _, rfl⟩⟩
    have I1 : Inv X pins σ (upd H s.heap.objs.size (.tup [.ref q, v])) { s with heap := h'' } :=
      I.turnedNew (t' := s.toks) (ch := [it]) (fun b ob hb e => (sb.2 b (by simpa using hb)).trans (hk b ob (by simpa using hb) e)) hf (Nat.le_refl _) new
    refine ⟨.ref s.heap.objs.size, _, I1, rfl, ⟨_, k, v, q, hkv, rfl, hq, I.hok.fresh (Nat.le_refl _), rfl⟩, ⟨.ref q, en.val, ?_⟩, fun b hb => ?_⟩
    · rw [← hsz]
      exact he'
    · rw [List.mem_singleton.mp hb, upd_ne (Nat.ne_of_lt hlt)]
      exact (hf it (List.mem_singleton.mpr rfl)).1
  done := by
    intro X hP hw hK hc i pins s σ H E I hf st hg
    subst hP hw hK
    obtain ⟨hd, hi⟩ := hg
    obtain ⟨f0, f1, f2, f3, f4, f5⟩ := hf it (List.mem_singleton.mpr rfl)
    obtain ⟨hs, hgd, hx, es', ep', hdt, hsz, ent⟩ := frzT2 I hd
    obtain ⟨rfl, rfl⟩ := dict_ep hod hdt
    obtain ⟨ok, ov, he⟩ := st
    rw [← hsz] at he
    exact DT.endI (I.ok.hd hc) he ⟨o, hgd, hx, hdt⟩ (by omega) fun h' eb => ⟨rfl, I.turned (t' := s.toks) (fun b ob hb e => eb b ob hb e) f0 f1 f3 f4 f5⟩
  self := fun A i s Q E st h => by
    obtain ⟨_, _, e⟩ := st
    exact PySem.W.kcp_self e h
end
def iItemsT (td : TE) : TI := fun σ H R => td σ H fun x H1 => ∃ d o kvs, x = .ref d ∧ H1 d = some (.frz o (.dT kvs)) ∧ R (ItiT d o kvs) H1
theorem pi_itemsT {X : Cx} {e : Expr} {td : TE} {apos cpos tpos : Pos} {elts : List Expr} {kk : Nat} (he : PE X e td) (hbase : attributeBase e "items" X.env (eval e X.env) = eval e X.env := by rfl) (hline : (apos.endLine == cpos.line) = true := by rfl) :
    PI X (.Tuple elts kk tpos) (.Call (.Attribute e "items" apos) [] [] cpos) (iItemsT td) := by
  refine ⟨fun pins s σ H R I h => ?_⟩
  refine wpAny_Call_method (T := "dict") (id := "dict.items") hbase rfl hline F.plainAttrs_dict F.slot_dict_items F.type_dict_items (thn (he.run pins s σ H _ I h) fun u s1 ⟨x, H1, I1, rx, d, o, kvs, ex, hd, q⟩ => ?_)
  subst ex
  obtain rfl : u = Value.ref d := rx
  obtain ⟨hs, hgd, hx, es, ep, hdt, hsz, ent⟩ := frzT2 I1 hd
  have raw : DT.Raw s1.heap d es ep := ⟨o, hgd, hx, hdt⟩
  refine ⟨raw.typeIs, (fun a ea => by cases ea; exact ⟨o, hgd, hx.2.1⟩), ?_⟩
  have I2 : Inv X pins σ H1 { s1 with heap := s1.heap.push { cls := .type "dict_items", data := .fields #[.ref d] } } := I1.kept (t' := s1.toks) fun b ob q => Heap.get?_push_of_some _ q
  have fin : wpAny (model X.prog X.w) X.A (pyIter (.ref s1.heap.objs.size)) (PIE X pins σ (.Tuple elts kk tpos) R) X.xe { s1 with heap := s1.heap.push { cls := .type "dict_items", data := .fields #[.ref d] } } := by
    refine DT.iterI (d := d) (es := es) (ep := ep) ⟨_, Heap.get?_push_size _ rfl, rfl, rfl⟩ (raw.push _) (pi_one (tk := s1.toks) I2 _ (turn_itemsT _ hdt) ⟨.none, .none, ?_⟩ q)
    rw [hsz]
    exact Heap.get?_push_size _ rfl
  show wpAny _ _ (callWith cpos (.builtin "dict.items") [.ref d] [] []) _ X.xe s1
  exact method_meetsIn F.slot_dict_items F.entry_dict_items rfl (PySem.evalArgs_none ⟨rfl, raw.typeIs, F.args_dict_items_1 _, _, DT.meetsItems (es := es) (ep := ep) hs, ⟨raw, fin⟩⟩)
theorem walk_itemsT {d : Addr} {o : Obj} {kvs : List (List L2.Key × V)} : Walk (ItiT d o kvs) kvs.length (fun H => H d = some (.frz o (.dT kvs)))
    (fun i H x H' => ∃ (T : Addr) (k : List L2.Key) (v : V) (q : Addr), kvs[i]? = some (k, v) ∧ x = .ref T ∧ H q = some (.tup (k.map kV)) ∧ H T = none ∧ H' = upd H T (.tup [.ref q, v])) :=
  ⟨fun _ _ hi q => ⟨q, hi⟩, fun _ q => ⟨q, Nat.le_refl _⟩, fun _ _ _ _ _ _ y => y⟩
end Vx
namespace Vx
open PySem PySem.Spec PyProof.Rows L2
/-! ### bits of numbers from 0 on -/
theorem xor_and_add : ∀ a b : Nat, (a ^^^ b) + 2 * (a &&& b) = a + b := by
  intro a
  induction a using Nat.strongRecOn with
  | _ a ih =>
    intro b
    by_cases h : a = 0
    · subst h
      simp
    · have e := ih (a / 2) (by omega) (b / 2)
      have x1 : (a ^^^ b) / 2 = (a / 2) ^^^ (b / 2) := Nat.xor_div_two
      have x2 : (a &&& b) / 2 = (a / 2) &&& (b / 2) := Nat.and_div_two
      have t1 := Nat.testBit_xor a b 0
      have t2 := Nat.testBit_and a b 0
      rw [Nat.testBit_zero, Nat.testBit_zero, Nat.testBit_zero] at t1 t2
      have y1 : (a ^^^ b) % 2 = (a % 2 + b % 2) % 2 := by
        by_cases p : a % 2 = 1 <;> by_cases q : b % 2 = 1
        · rw [decide_eq_true p, decide_eq_true q] at t1
          have := of_decide_eq_false t1
          omega
        · rw [decide_eq_true p, decide_eq_false q] at t1
          have := of_decide_eq_true t1
          omega
        · rw [decide_eq_false p, decide_eq_true q] at t1
          have := of_decide_eq_true t1
          omega
        · rw [decide_eq_false p, decide_eq_false q] at t1
          have := of_decide_eq_false t1
          omega
      have y2 : (a &&& b) % 2 = if a % 2 = 1 ∧ b % 2 = 1 then 1 else 0 := by
        by_cases p : a % 2 = 1 <;> by_cases q : b % 2 = 1
        · rw [decide_eq_true p, decide_eq_true q] at t2
          rw [if_pos ⟨p, q⟩]
          exact of_decide_eq_true t2
        · rw [decide_eq_true p, decide_eq_false q] at t2
          rw [if_neg fun z => q z.2]
          have := of_decide_eq_false t2
          omega
        · rw [decide_eq_false p, decide_eq_true q] at t2
          rw [if_neg fun z => p z.1]
          have := of_decide_eq_false t2
          omega
        · rw [decide_eq_false p, decide_eq_false q] at t2
          rw [if_neg fun z => p z.1]
          have := of_decide_eq_false t2
          omega
      have z1 := Nat.div_add_mod (a ^^^ b) 2
      have z2 := Nat.div_add_mod (a &&& b) 2
      rw [x1, y1] at z1
      rw [x2, y2] at z2
      by_cases p : a % 2 = 1 ∧ b % 2 = 1
      · rw [if_pos p] at z2
        omega
      · rw [if_neg p] at z2
        omega
theorem or_and_xor (a b : Nat) : (a ||| b) = (a ^^^ b) + (a &&& b) := by
  have d : (a ^^^ b) &&& (a &&& b) = 0 := by
    refine Nat.eq_of_testBit_eq fun i => ?_
    simp only [Nat.testBit_and, Nat.testBit_xor, Nat.zero_testBit]
    cases a.testBit i <;> cases b.testBit i <;> rfl
  have e := xor_and_add (a ^^^ b) (a &&& b)
  rw [d] at e
  have f : (a ^^^ b) ^^^ (a &&& b) = a ||| b := by
    refine Nat.eq_of_testBit_eq fun i => ?_
    simp only [Nat.testBit_and, Nat.testBit_xor, Nat.testBit_or]
    cases a.testBit i <;> cases b.testBit i <;> rfl
  omega
theorem bAnd (a b : Nat) : Builtin.bitAnd (a : Int) (b : Int) = ((a &&& b : Nat) : Int) := PySem.W.os_band a b
theorem bOr (a b : Nat) : Builtin.bitOr (a : Int) (b : Int) = ((a ||| b : Nat) : Int) := by
  rw [bitOr_nn (Int.natCast_nonneg a) (Int.natCast_nonneg b), Int.toNat_natCast, Int.toNat_natCast]
theorem bXor (a b : Nat) : Builtin.bitXor (a : Int) (b : Int) = ((a ^^^ b : Nat) : Int) := by
  show Builtin.bitOr (a : Int) (b : Int) - Builtin.bitAnd (a : Int) (b : Int) = _
  rw [bAnd, bOr, or_and_xor]
  omega
section
variable {X : Cx}
theorem op_andNN : OpR X (binaryOp .BitAnd) (fun x y H Q => ∃ a b : Nat, x = .int (a : Int) ∧ y = .int (b : Int) ∧ Q (.int ((a &&& b : Nat) : Int)) H) := by
  intro pins s σ H x y v u Q I r1 r2 h
  obtain ⟨a, b, rfl, rfl, q⟩ := h
  exact op_and pins s σ H _ _ v u Q I r1 r2 ⟨_, _, rfl, rfl, (by show Q (V.int (Builtin.bitAnd (a : Int) (b : Int))) H; rw [bAnd]; exact q)⟩
theorem op_orNN : OpR X (binaryOp .BitOr) (fun x y H Q => ∃ a b : Nat, x = .int (a : Int) ∧ y = .int (b : Int) ∧ Q (.int ((a ||| b : Nat) : Int)) H) := by
  intro pins s σ H x y v u Q I r1 r2 h
  obtain ⟨a, b, rfl, rfl, q⟩ := h
  exact op_or pins s σ H _ _ v u Q I r1 r2 ⟨_, _, rfl, rfl, (by show Q (V.int (Builtin.bitOr (a : Int) (b : Int))) H; rw [bOr]; exact q)⟩
theorem op_xorNN : OpR X (binaryOp .BitXor) (fun x y H Q => ∃ a b : Nat, x = .int (a : Int) ∧ y = .int (b : Int) ∧ Q (.int ((a ^^^ b : Nat) : Int)) H) := by
  intro pins s σ H x y v u Q I r1 r2 h
  obtain ⟨a, b, rfl, rfl, q⟩ := h
  exact op_xor pins s σ H _ _ v u Q I r1 r2 ⟨_, _, rfl, rfl, (by show Q (V.int (Builtin.bitXor (a : Int) (b : Int))) H; rw [bXor]; exact q)⟩
theorem ip_orNN : PIp X .BitOr (fun x y H Q => ∃ a b : Nat, x = .int (a : Int) ∧ y = .int (b : Int) ∧ Q (.int ((a ||| b : Nat) : Int)) H) := by
  intro pins s σ H x y v u Q I r1 r2 h
  obtain ⟨a, b, rfl, rfl, q⟩ := h
  exact iop_or pins s σ H _ _ v u Q I r1 r2 ⟨_, _, rfl, rfl, (by show Q (V.int (Builtin.bitOr (a : Int) (b : Int))) H; rw [bOr]; exact q)⟩
theorem ip_xorNN : PIp X .BitXor (fun x y H Q => ∃ a b : Nat, x = .int (a : Int) ∧ y = .int (b : Int) ∧ Q (.int ((a ^^^ b : Nat) : Int)) H) := by
  intro pins s σ H x y v u Q I r1 r2 h
  obtain ⟨a, b, rfl, rfl, q⟩ := h
  exact iop_xor pins s σ H _ _ v u Q I r1 r2 ⟨_, _, rfl, rfl, (by show Q (V.int (Builtin.bitXor (a : Int) (b : Int))) H; rw [bXor]; exact q)⟩
theorem op_shrNN : OpR X (binaryOp .RShift) (fun x y H Q => ∃ a k : Nat, x = .int (a : Int) ∧ y = .int (k : Int) ∧ Q (.int ((a >>> k : Nat) : Int)) H) := by
  intro pins s σ H x y v u Q I r1 r2 h
  obtain ⟨a, k, rfl, rfl, q⟩ := h
  refine op_shrN pins s σ H _ _ v u Q I r1 r2 ⟨_, k, rfl, rfl, ?_⟩
  rw [show (a : Int) / 2 ^ k = ((a >>> k : Nat) : Int) by rw [Nat.shiftRight_eq_div_pow]; exact (by push_cast; rfl)]
  exact q
theorem op_shlNN : OpR X (binaryOp .LShift) (fun x y H Q => ∃ (a k n : Nat), x = .int (a : Int) ∧ y = .int (k : Int) ∧ a < 2 ^ n ∧ n + k ≤ 134217728 ∧ Q (.int ((a <<< k : Nat) : Int)) H) := by
  intro pins s σ H x y v u Q I r1 r2 h
  obtain ⟨a, k, n, rfl, rfl, la, lk, q⟩ := h
  refine op_shlN pins s σ H _ _ v u Q I r1 r2 ⟨_, k, rfl, rfl, shl_ok (n := n) la lk, ?_⟩
  rw [show (a : Int) * 2 ^ k = ((a <<< k : Nat) : Int) by rw [Nat.shiftLeft_eq]; exact (by push_cast; rfl)]
  exact q
end
/-! ### the bits that are set, ascending -/
def bitsB (N n : Nat) : List Nat := (List.range N).filter fun j => n.testBit j
theorem mem_bitsB {N n j : Nat} : j ∈ bitsB N n ↔ j < N ∧ n.testBit j = true := by
  unfold bitsB
  rw [List.mem_filter, List.mem_range]
theorem low_bit : ∀ n : Nat, n ≠ 0 → ∃ k a, n = 2 ^ k * (2 * a + 1) := by
  intro n
  induction n using Nat.strongRecOn with
  | _ n ih =>
    intro h
    by_cases e : n % 2 = 1
    · exact ⟨0, n / 2, by omega⟩
    · obtain ⟨k, a, q⟩ := ih (n / 2) (by omega) (by omega)
      refine ⟨k + 1, a, ?_⟩
      have : n = 2 * (n / 2) := by omega
      rw [this, q, Nat.pow_succ, Nat.mul_comm (2 ^ k) 2, Nat.mul_assoc]
theorem low_test {k a j : Nat} : (2 ^ k * (2 * a + 1)).testBit j = (decide (j = k) || (decide (k < j) && (2 ^ k * (2 * a)).testBit j)) := by
  rw [Nat.testBit_two_pow_mul, Nat.testBit_two_pow_mul]
  by_cases h : k ≤ j
  · by_cases e : j = k
    · subst e
      simp [Nat.testBit_zero]
    · have e2 : k < j := by omega
      have e3 : j - k = (j - k - 1) + 1 := by omega
      rw [e3, Nat.testBit_succ, Nat.testBit_succ]
      have e4 : (2 * a + 1) / 2 = 2 * a / 2 := by omega
      rw [e4]
      simp [h, e, e2]
  · have e : j ≠ k := by omega
    have e2 : ¬ k < j := by omega
    simp [h, e, e2]
theorem low_xor (k a : Nat) : 2 ^ k * (2 * a + 1) ^^^ 2 ^ k = 2 ^ k * (2 * a) := by
  refine Nat.eq_of_testBit_eq fun j => ?_
  rw [Nat.testBit_xor, low_test, Nat.testBit_two_pow]
  by_cases e : k = j
  · subst e
    simp [Nat.testBit_two_pow_mul, Nat.testBit_zero]
  · have e' : j ≠ k := fun z => e z.symm
    simp only [e, e', decide_false, Bool.false_or, Bool.xor_false]
    by_cases h : k < j
    · simp [h]
    · have : ¬ k ≤ j := by omega
      simp [h, this, Nat.testBit_two_pow_mul]
theorem bits_low {N k a : Nat} (h : 2 ^ k * (2 * a + 1) < 2 ^ N) : bitsB N (2 ^ k * (2 * a + 1)) = k :: bitsB N (2 ^ k * (2 * a)) := by
  have hk : k < N := by
    have : 2 ^ k < 2 ^ N := Nat.lt_of_le_of_lt (Nat.le_mul_of_pos_right _ (by omega)) h
    exact (Nat.pow_lt_pow_iff_right (by decide)).mp this
  have e : List.range N = List.range k ++ k :: (List.range (N - k - 1)).map (fun j => k + 1 + j) := by
    have e1 := List.range_add (n := k) (m := N - k)
    rw [show k + (N - k) = N by omega] at e1
    rw [e1, show N - k = (N - k - 1) + 1 by omega, List.range_succ_eq_map, List.map_cons, List.map_map]
    simp
    intro j _
    omega
  have z : ∀ m, (List.range k).filter (fun j => (2 ^ k * m).testBit j) = [] := fun m => by
    refine List.filter_eq_nil_iff.mpr fun j hj => ?_
    have := List.mem_range.mp hj
    rw [Nat.testBit_two_pow_mul]
    have : ¬ k ≤ j := by omega
    simp [this]
  unfold bitsB
  rw [e, List.filter_append, List.filter_append, z, z, List.nil_append, List.nil_append, List.filter_cons, List.filter_cons]
  rw [if_pos (by rw [low_test]; simp), if_neg (by rw [Nat.testBit_two_pow_mul]; simp [Nat.testBit_zero])]
  refine congrArg _ (List.filter_congr fun j hj => ?_)
  obtain ⟨i, _, rfl⟩ := List.mem_map.mp hj
  rw [low_test]
  have e1 : ¬ k + 1 + i = k := by omega
  have e2 : k < k + 1 + i := by omega
  simp [e1, e2]
theorem bits_zero (N : Nat) : bitsB N 0 = [] := by
  unfold bitsB
  exact List.filter_eq_nil_iff.mpr fun j _ => by simp
theorem low_and (k a : Nat) : Builtin.bitAnd ((2 ^ k * (2 * a + 1) : Nat) : Int) (-((2 ^ k * (2 * a + 1) : Nat) : Int)) = ((2 ^ k : Nat) : Int) := by
  have e := PySem.W.kbt_low k (a : Int)
  push_cast
  exact e
theorem intBits_pow (k : Nat) : Builtin.Int.intBits ((2 ^ k : Nat) : Int) = k + 1 := by
  unfold Builtin.Int.intBits
  have h : ¬ ((((2 ^ k : Nat) : Int)) == 0) = true := by
    have : 0 < 2 ^ k := Nat.two_pow_pos k
    simp only [beq_iff_eq]
    omega
  rw [if_neg h, Int.natAbs_natCast, Nat.log2_two_pow]
end Vx
namespace Vx
open PySem PySem.Spec PyProof.Rows L2
/-! ### dicts whose keys are pairs, told by the list of the keys and a function -/
def MapP (kvs : List (List L2.Key × V)) (ps : List Pr) (g : Pr → V) : Prop := kvs = ps.map (fun x => (keyP x, g x)) ∧ ps.Nodup
def addK (ps : List Pr) (x : Pr) : List Pr := if x ∈ ps then ps else ps ++ [x]
def setG (g : Pr → V) (x : Pr) (v : V) : Pr → V := fun y => if y = x then v else g y
theorem mem_addK {ps : List Pr} {x y : Pr} : y ∈ addK ps x ↔ y ∈ ps ∨ y = x := by
  unfold addK
  by_cases h : x ∈ ps
  · rw [if_pos h]
    exact ⟨.inl, fun q => q.elim id fun e => e ▸ h⟩
  · rw [if_neg h, List.mem_append, List.mem_singleton]
theorem addK_len {ps : List Pr} {x : Pr} : (addK ps x).length ≤ ps.length + 1 := by
  unfold addK
  by_cases h : x ∈ ps
  · rw [if_pos h]
    omega
  · rw [if_neg h, List.length_append]
    exact Nat.le_refl _
theorem addK_new {ps : List Pr} {x : Pr} (h : x ∉ ps) : addK ps x = ps ++ [x] := if_neg h
theorem addK_old {ps : List Pr} {x : Pr} (h : x ∈ ps) : addK ps x = ps := if_pos h
theorem MapP.nil (g : Pr → V) : MapP [] [] g := ⟨rfl, List.nodup_nil⟩
theorem MapP.keys {kvs : List (List L2.Key × V)} {ps : List Pr} {g : Pr → V} (h : MapP kvs ps g) : KeysP kvs ps := by
  refine ⟨?_, h.2⟩
  rw [h.1, List.map_map]
  rfl
theorem MapP.len {kvs : List (List L2.Key × V)} {ps : List Pr} {g : Pr → V} (h : MapP kvs ps g) : kvs.length = ps.length := by rw [h.1, List.length_map]
theorem MapP.congr {kvs : List (List L2.Key × V)} {ps : List Pr} {g g' : Pr → V} (h : MapP kvs ps g) (e : ∀ x ∈ ps, g x = g' x) : MapP kvs ps g' := by
  refine ⟨?_, h.2⟩
  rw [h.1]
  exact List.map_congr_left fun x m => by rw [e x m]
theorem MapP.at {kvs : List (List L2.Key × V)} {ps : List Pr} {g : Pr → V} (h : MapP kvs ps g) {i : Nat} {k : List L2.Key} {v : V} (e : kvs[i]? = some (k, v)) : ∃ x, ps[i]? = some x ∧ k = keyP x ∧ v = g x := by
  rw [h.1, List.getElem?_map] at e
  cases q : ps[i]? with
  | none => rw [q] at e; cases e
  | some x =>
    rw [q] at e
    injection e with e
    injection e with e1 e2
    exact ⟨x, rfl, e1.symm, e2.symm⟩
theorem MapP.get {kvs : List (List L2.Key × V)} {ps : List Pr} {g : Pr → V} (h : MapP kvs ps g) (x : Pr) : valV kvs (keyP x) = if x ∈ ps then some (g x) else none := by
  rw [h.1]
  have go : ∀ qs : List Pr, valV (qs.map fun x => (keyP x, g x)) (keyP x) = if x ∈ qs then some (g x) else none := fun qs => by
    induction qs with
    | nil => rfl
    | cons y qs ih =>
      rw [List.map_cons]
      by_cases e : y = x
      · subst e
        rw [valV_pos rfl, if_pos List.mem_cons_self]
      · rw [valV_neg (fun z => e (keyP_inj z)), ih]
        have e' : ¬ x = y := fun z => e z.symm
        by_cases m : x ∈ qs <;> simp [m, e']
  exact go ps
theorem MapP.put {kvs : List (List L2.Key × V)} {ps : List Pr} {g : Pr → V} (h : MapP kvs ps g) (x : Pr) (v : V) : MapP (putK kvs (keyP x) v) (addK ps x) (setG g x v) := by
  have any : (kvs.any fun kv => decide (kv.1 = keyP x)) = decide (x ∈ ps) := by
    rw [valV_any, h.get]
    by_cases m : x ∈ ps <;> simp [m]
  unfold putK
  rw [any]
  by_cases m : x ∈ ps
  · rw [if_pos (decide_eq_true m), addK_old m]
    refine ⟨?_, h.2⟩
    rw [h.1, List.map_map]
    refine List.map_congr_left fun y _ => ?_
    show (if keyP y = keyP x then (keyP y, v) else (keyP y, g y)) = (keyP y, if y = x then v else g y)
    by_cases e : y = x
    · rw [if_pos (by rw [e]), if_pos e]
    · rw [if_neg fun z => e (keyP_inj z), if_neg e]
  · rw [if_neg (by simp [m]), addK_new m]
    refine ⟨?_, ?_⟩
    · rw [h.1, List.map_append]
      congr 1
      · refine List.map_congr_left fun y my => ?_
        have e : ¬ y = x := fun e => m (e ▸ my)
        show (keyP y, g y) = (keyP y, if y = x then v else g y)
        rw [if_neg e]
      · show [(keyP x, v)] = [(keyP x, if x = x then v else g x)]
        rw [if_pos rfl]
    · refine List.pairwise_append.mpr ⟨h.2, List.pairwise_cons.mpr ⟨fun _ m => (by cases m), List.Pairwise.nil⟩, fun a ma b mb e => ?_⟩
      rw [List.mem_singleton.mp mb] at e
      exact m (e ▸ ma)
theorem MapP.drop {kvs : List (List L2.Key × V)} {ps : List Pr} {g : Pr → V} (h : MapP kvs ps g) (x : Pr) : MapP (dropK kvs (keyP x)) (ps.filter fun y => decide (y ≠ x)) g := by
  refine ⟨?_, h.2.filter _⟩
  unfold dropK
  rw [h.1, List.filter_map]
  congr 1
  refine List.filter_congr fun y _ => ?_
  show decide (keyP y ≠ keyP x) = decide (y ≠ x)
  by_cases e : y = x
  · simp [e]
  · have : keyP y ≠ keyP x := fun z => e (keyP_inj z)
    simp [e, this]
/-- at d: such a dict -/
def Dct (H : Hp) (d : Addr) (ps : List Pr) (g : Pr → V) : Prop := ∃ kvs, H d = some (.dT kvs) ∧ MapP kvs ps g
theorem Dct.up {H H' : Hp} {d : Addr} {ps : List Pr} {g : Pr → V} (e : Same H H') (h : Dct H d ps g) : Dct H' d ps g := by
  obtain ⟨kvs, h1, h2⟩ := h
  exact ⟨kvs, e _ _ h1, h2⟩
theorem Dct.new {H : Hp} {d : Addr} (g : Pr → V) (h : H d = some (.dT [])) : Dct H d [] g := ⟨[], h, .nil g⟩
theorem Dct.ne {H : Hp} {d p : Addr} {ps : List Pr} {g : Pr → V} (h : Dct H d ps g) (n : H p = none) : p ≠ d := fun e => by
  obtain ⟨kvs, h1, _⟩ := h
  rw [e, h1] at n
  cases n
theorem Dct.isD {H : Hp} {d : Addr} {ps : List Pr} {g : Pr → V} (h : Dct H d ps g) : IsD H d := by
  obtain ⟨kvs, h1, _⟩ := h
  exact .inr ⟨kvs, .inl h1⟩
theorem Dct.dget {H : Hp} {d b : Addr} {ps : List Pr} {g : Pr → V} {x : Pr} (h : Dct H d ps g) (e : H b = some (.tup [.int x.1, .int x.2])) : DGet H d (.ref b) (if x ∈ ps then some (g x) else none) := by
  obtain ⟨kvs, h1, h2⟩ := h
  rw [← h2.get x]
  exact .t (k := keyP x) h1 e
/-- the answer of d.get(x, z) -/
def orG (ps : List Pr) (g : Pr → V) (z : V) (x : Pr) : V := if x ∈ ps then g x else z
theorem getD_or {ps : List Pr} {g : Pr → V} {z : V} {x : Pr} : (if x ∈ ps then some (g x) else none : Option V).getD z = orG ps g z x := by
  unfold orG
  by_cases h : x ∈ ps <;> simp [h]
/-- what stands elsewhere stays, d's dict grows -/
def PutAt (H : Hp) (d : Addr) (ps : List Pr) (g : Pr → V) (x : Pr) (v : V) (H' : Hp) : Prop := Dct H' d (addK ps x) (setG g x v) ∧ ∀ b, b ≠ d → H' b = H b
theorem Dct.dput {H : Hp} {d b : Addr} {ps : List Pr} {g : Pr → V} {x : Pr} (h : Dct H d ps g) (few : ps.length < sizeLine) (e : H b = some (.tup [.int x.1, .int x.2])) (v : V) : ∃ H', DPut H d (.ref b) v H' ∧ PutAt H d ps g x v H' := by
  obtain ⟨kvs, h1, h2⟩ := h
  exact ⟨_, .t (k := keyP x) h1 e (by rw [h2.len]; exact few), ⟨_, upd_same, h2.put x v⟩, fun b n => upd_ne n⟩
theorem PutAt.mut {H0 H H' : Hp} {d : Addr} {ps : List Pr} {g : Pr → V} {x : Pr} {v : V} (p : PutAt H d ps g x v H') (sm : Same H0 H) (n : H0 d = none) : Same H0 H' := fun b o e => by
  rw [p.2 b fun z => by rw [z, n] at e; cases e]
  exact sm b o e
theorem Dct.congr {H : Hp} {d : Addr} {ps : List Pr} {g g' : Pr → V} (h : Dct H d ps g) (e : ∀ x ∈ ps, g x = g' x) : Dct H d ps g' := by
  obtain ⟨kvs, h1, h2⟩ := h
  exact ⟨kvs, h1, h2.congr e⟩
theorem updS {H H' : Hp} {d : Addr} {o : HO} (e : Same H H') : Same (upd H d o) (upd H' d o) := fun b u h => by
  by_cases c : b = d
  · rw [c, upd_same] at h
    rw [c, upd_same]
    exact h
  · rw [upd_ne c] at h
    rw [upd_ne c]
    exact e b u h
theorem Dct.off {H : Hp} {d e : Addr} {ps : List Pr} {g : Pr → V} {o : HO} (h : Dct H d ps g) (n : d ≠ e) : Dct (upd H e o) d ps g := by
  obtain ⟨kvs, h1, h2⟩ := h
  exact ⟨kvs, by rw [upd_ne n]; exact h1, h2⟩
theorem nodup_next {α : Type} {ps : List α} {i : Nat} {x : α} (nd : ps.Nodup) (h : ps[i]? = some x) : x ∉ ps.take i := fun m => by
  obtain ⟨j, hj, e⟩ := List.getElem_of_mem m
  rw [List.length_take] at hj
  obtain ⟨li, ei⟩ := List.getElem?_eq_some_iff.mp h
  rw [List.getElem_take] at e
  have := (List.getElem_inj nd (h₀ := by omega) (h₁ := li)).mp (e.trans ei.symm)
  omega
theorem addK_take {ps : List Pr} {i : Nat} {x : Pr} (nd : ps.Nodup) (h : ps[i]? = some x) : addK (ps.take i) x = ps.take (i + 1) := by
  rw [addK_new (nodup_next nd h), take_next h]
theorem unlock {H H' : Hp} {d : Addr} {od : Obj} {u : HO} (hd : H d = some u) (sm : Same (upd H d (.frz od u)) H') : Same H (upd H' d u) := fun b o e => by
  by_cases c : b = d
  · rw [c] at e ⊢
    rw [hd] at e
    rw [upd_same]
    exact e
  · rw [upd_ne c]
    exact sm b o (by rw [upd_ne c]; exact e)
/-! ### the program's lists of such keys -/
theorem isKeys_cells {H : Hp} {p : Addr} : ∀ {kvs : List (List L2.Key × V)} {ps : List Pr} {g : Pr → V} {bs : List Addr}, MapP kvs ps g → IsKeys H kvs bs → H p = some (.lst (bs.map V.ref)) → Cells H p ps := by
  have go : ∀ (ps : List Pr) (g : Pr → V) (bs : List Addr), IsKeys H (ps.map fun x => (keyP x, g x)) bs → ∃ ts : List (Addr × Pr), bs.map V.ref = ts.map (fun t => V.ref t.1) ∧ (∀ t ∈ ts, H t.1 = some (.tup [.int t.2.1, .int t.2.2])) ∧ ts.map (·.2) = ps := by
    intro ps g
    induction ps with
    | nil =>
      intro bs h
      cases h
      exact ⟨[], rfl, fun _ m => (by cases m), rfl⟩
    | cons x ps ih =>
      intro bs h
      cases h with
      | @cons _ b _ bs h1 h2 =>
        obtain ⟨ts, a1, a2, a3⟩ := ih bs h2
        refine ⟨(b, x) :: ts, ?_, ?_, ?_⟩
        · rw [List.map_cons, List.map_cons, a1]
        · intro t m
          rcases List.mem_cons.mp m with e | m
          · rw [e]
            exact h1
          · exact a2 t m
        · rw [List.map_cons, a3]
  intro kvs ps g bs h k e
  rw [h.1] at k
  obtain ⟨ts, a1, a2, a3⟩ := go ps g bs k
  exact ⟨ts, by rw [e, a1], a2, a3⟩
theorem cr_listP {X : Cx} (hc : X.calm = true) : CallR X (.type "list") (fun xs H Q => ∃ d ps g, xs = [V.ref d] ∧ Dct H d ps g ∧ ∀ H' p, Same H H' → H p = none → Cells H' p ps → Q (.ref p) H') := by
  intro pins s σ H xs us Q I r h
  obtain ⟨d, ps, g, rfl, ⟨kvs, h1, h2⟩, q⟩ := h
  refine call_list_dT hc pins s σ H _ us Q I r ⟨d, kvs, rfl, .inl h1, fun p bs n k => q _ p (newS n) n ?_⟩
  refine isKeys_cells (bs := bs) h2 ?_ upd_same
  exact Paired.mapP k fun a b e => newS n _ _ e
theorem truC {K : PySem.W.Frag} {H : Hp} {l : Addr} {ps : List Pr} (h : Cells H l ps) : TruV K (.ref l) H (!ps.isEmpty) := by
  obtain ⟨ts, h1, _, rfl⟩ := h
  exact .inl ⟨_, lst_of h1, by cases ts <;> rfl⟩
/-- sorted(d) -/
theorem cr_sortedDT {X : Cx} (hcalm : X.calm = true) : CallR X (.builtin "sorted") (fun xs H Q => ∃ d ps g, xs = [V.ref d] ∧ Dct H d ps g ∧ ∀ p H' qs, Same H H' → H p = none → Cells H' p qs → CanP ps qs → qs.length = ps.length → Q (.ref p) H') := by
  intro pins s σ H xs us Q I r h
  obtain ⟨d, ps, g, rfl, ⟨kvs, hd, hm⟩, q⟩ := h
  obtain ⟨u, rfl, rx⟩ := r.one
  cases rx
  obtain ⟨z, hs, ks, prd, o, es, ep, ho, hx, hdt, he, hn⟩ := (show ObjOk X.prog X.w H s.heap d (.dT kvs) from (Rd.of hd).ok I.hok)
  have l1 : es.size = ks.length := size_of_entries he
  have l2 : kvs.length = ks.length := Paired.length prd
  have lim : es.size ≤ sizeLine := by omega
  refine Calls.call_function_entry kind_sorted plain_sorted entry_sorted (args_sorted1 _) ?_
  unfold Builtin.«sorted»
  refine wpAny_bind (m := checkCount "sorted" 1 1 _) (wpAny_pure ?_)
  refine wpAny_bind (PySem.W.kdu_collect (A := X.A.in1) (kdl_raw hs hx hdt) (I.ok.hd hcalm) ho lim fun h' tk acc kp it => ?_)
  -- the key tuples
  have keyAt : ∀ (i : Nat) (x : Pr), ps[i]? = some x → ∃ b, acc.toList[i]? = some (.ref b) ∧ H b = some (.tup [.int x.1, .int x.2]) := fun i x e => by
    have e1 : kvs[i]? = some (keyP x, g x) := by rw [hm.1, List.getElem?_map, e]; rfl
    obtain ⟨b, hb, _, e2, _⟩ := paired_get prd e1
    have q1 := entry_at he i
    rw [hb] at q1
    have li : i < acc.toList.length := by
      rw [Array.length_toList, it.1, l1]
      exact (List.getElem?_eq_some_iff.mp hb).1
    obtain ⟨en, q2, q3⟩ := it.2 i acc.toList[i] (by rw [← Array.getElem?_toList]; exact List.getElem?_eq_getElem li)
    rw [q1] at q2
    have q4 : entryOfKey (tupleKind (mixKind X.prog X.w)) b = en := Option.some.inj q2
    refine ⟨b.2.1, ?_, e2⟩
    rw [List.getElem?_eq_getElem li, q3, ← q4]
    rfl
  have al : acc.toList.length = ps.length := by rw [Array.length_toList, it.1, l1, ← l2, hm.len]
  have lacc : acc.toList.length ≤ sizeLine := by rw [Array.length_toList, it.1]; exact lim
  have I1 : Inv X pins σ H { s with heap := h', toks := tk } := I.kept kp
  refine wpAny_bind (wpAny_newList ?_ lacc)
  have gl : (h'.push (seqObj "list" acc.toList.toArray 0)).get? h'.objs.size = some (seqObj "list" acc.toList.toArray 0) := Heap.get?_push_size _ rfl
  show wpAny _ _ _ _ _ { s with heap := h'.push (seqObj "list" acc.toList.toArray 0), toks := tk }
  generalize hh1 : h'.push (seqObj "list" acc.toList.toArray 0) = h1 at gl ⊢
  generalize acc.toList = vs at *
  have keep1 : ∀ b u, h'.get? b = some u → h1.get? b = some u := fun b u e => by
    rw [← hh1]
    exact Heap.get?_push_of_some _ e
  have own : ∀ v ∈ vs, ∃ b x, v = .ref b ∧ H b = some (.tup [.int x.1, .int x.2]) ∧ (x : Pr) ∈ ps := fun v m => by
    obtain ⟨i, li, e⟩ := List.getElem_of_mem m
    have lp : i < ps.length := by omega
    obtain ⟨b, e1, e2⟩ := keyAt i ps[i] (List.getElem?_eq_getElem lp)
    rw [List.getElem?_eq_getElem li] at e1
    exact ⟨b, ps[i], by rw [← e]; exact Option.some.inj e1, e2, List.getElem_mem lp⟩
  have tin : ∀ b (x : Pr), H b = some (.tup [.int x.1, .int x.2]) → TS.TupInts h1 (.ref b) [x.1, x.2] := fun b x e => tupInts_of (P := X.prog) (w := X.w) (isT_keep (Inv.isT (k := [x.1, x.2]) I1 (tup_of e)) keep1)
  have key : ∀ b (x : Pr), H b = some (.tup [.int x.1, .int x.2]) → pr (TS.intsOf h1 (.ref b)) = x := fun b x e => by
    rw [(tin b x e).ints]
    rfl
  have isP : ∀ v ∈ vs, Srt.IsPair h1 v (pr (TS.intsOf h1 v)).1 (pr (TS.intsOf h1 v)).2 := fun v m => by
    obtain ⟨b, x, rfl, e, _⟩ := own v m
    rw [key b x e]
    have i := tin b x e
    obtain ⟨b2, items, eb, ⟨o1, go1, co1, n1, do1⟩, ia⟩ := i
    cases eb
    obtain ⟨xs⟩ := items
    cases ia with
    | cons _ t1 ia =>
      cases ia with
      | cons _ t2 ia =>
        cases ia
        exact ⟨_, o1, t1, t2, n1, rfl, go1, co1, do1⟩
  have mapK : vs.map (fun v => pr (TS.intsOf h1 v)) = ps := by
    refine List.ext_getElem? fun i => ?_
    rw [List.getElem?_map]
    by_cases li : i < ps.length
    · obtain ⟨b, e1, e2⟩ := keyAt i ps[i] (List.getElem?_eq_getElem li)
      rw [e1, List.getElem?_eq_getElem li]
      exact congrArg some (key b _ e2)
    · rw [List.getElem?_eq_none (by omega), List.getElem?_eq_none (by omega)]
      rfl
  refine wpAny_bind (wpAny_holding (wpAny_call_entry (s := { s with heap := h1, toks := tk }) slot_list_sort ⟨_, gl, rfl⟩ entry_list_sort (SrtO.list_sort_ord (s := { s with heap := h1, toks := tk }) (SrtO.swo_lex fun v => pr (TS.intsOf h1 v)) gl lacc (fun two => SrtO.pairs_sortableO (by omega) isP fun o1 e => ?_) fun out srt stb => ⟨_, rfl, ?_⟩) (args_list_sort _)))
  · have e' : some o1 = some (seqObj "list" vs.toArray 0) := e.symm.trans gl
    cases e'
    intro c
    exact absurd (Value.type.inj c) (by decide)
  · obtain ⟨c, gc⟩ := sortedHeap_at (vs := vs) (out := out.toArray) gl
    have oown : ∀ v ∈ out, ∃ b x, v = Value.ref b ∧ H b = some (.tup [.int x.1, .int x.2]) ∧ (x : Pr) ∈ ps := fun v m => own v (stb.perm.mem_iff.mp m)
    have keepAll : ∀ b u, h'.get? b = some u → (sortedHeap h1 h'.objs.size vs out.toArray).get? b = some u := fun b u g1 => by
      have lt1 := Heap.lt_size g1
      rw [sortedHeap_old (Nat.ne_of_lt lt1) (Heap.lt_size (keep1 b u g1))]
      exact keep1 b u g1
    have nF : H h'.objs.size = none := I1.hok.fresh (Nat.le_refl _)
    let ts : List (Addr × Pr) := out.map fun v => (adr v, pr (TS.intsOf h1 v))
    have eo : ts.map (fun t => Value.ref t.1) = out := by
      rw [List.map_map]
      refine (List.map_congr_left fun v m => ?_).trans (List.map_id _)
      obtain ⟨b, x, rfl, _⟩ := oown v m
      rfl
    have vals : ∀ ts : List (Addr × Pr), Vals (ts.map fun q => V.ref q.1) (ts.map fun q => Value.ref q.1) := fun ts => by
      induction ts with
      | nil => exact .nil
      | cons t ts ih => exact .cons rfl ih
    have lo : ts.length ≤ sizeLine := by
      rw [List.length_map, stb.perm.length_eq]
      exact lacc
    have new : ObjOk X.prog X.w (upd H h'.objs.size (.lst (ts.map fun q => V.ref q.1))) (sortedHeap h1 h'.objs.size vs out.toArray) h'.objs.size (.lst (ts.map fun q => V.ref q.1)) := by
      refine ⟨by rw [List.length_map]; exact lo, ts.map fun q => Value.ref q.1, c, vals ts, ?_⟩
      rw [eo]
      exact gc
    have J := I1.laid (t' := tk) keepAll (Nat.le_refl _) new
    have pmk : (ts.map (·.2)).Perm ps := by
      rw [List.map_map, ← mapK]
      exact stb.perm.map fun v => pr (TS.intsOf h1 v)
    refine wpAny_pure ⟨_, rfl, .ref h'.objs.size, _, J, rfl, q _ _ (ts.map (·.2)) (newS nF) nF ⟨ts, upd_same, fun t m => ?_, rfl⟩ ⟨?_, fun x => pmk.mem_iff⟩ pmk.length_eq⟩
    · obtain ⟨v, m1, rfl⟩ := List.mem_map.mp m
      obtain ⟨b, x, rfl, e, _⟩ := oown v m1
      refine newS nF _ _ ?_
      show H b = some (.tup [.int (pr (TS.intsOf h1 (.ref b))).1, .int (pr (TS.intsOf h1 (.ref b))).2])
      rw [key b x e]
      exact e
    · have nd : (ts.map (·.2)).Nodup := pmk.nodup_iff.mpr hm.2
      rw [List.map_map] at nd ⊢
      refine List.pairwise_map.mpr ((srt.and (List.pairwise_map.mp nd)).imp fun {u v} h => ?_)
      have a1 := SrtO.lexB_no.mp h.1
      have a2 : ¬ ((pr (TS.intsOf h1 u)).1 = (pr (TS.intsOf h1 v)).1 ∧ (pr (TS.intsOf h1 u)).2 = (pr (TS.intsOf h1 v)).2) := fun e => h.2 (Prod.ext e.1 e.2)
      refine ltP_iff.mpr ?_
      show (pr (TS.intsOf h1 u)).1 < (pr (TS.intsOf h1 v)).1 ∨ (pr (TS.intsOf h1 u)).1 = (pr (TS.intsOf h1 v)).1 ∧ (pr (TS.intsOf h1 u)).2 < (pr (TS.intsOf h1 v)).2
      omega
end Vx
namespace Vx
open PySem PySem.Spec PyProof.Rows L2
/-! ### a number in binary digits -/
def binL (n : Nat) : List Nat := (Nat.toDigits 2 n).map Char.toNat
def binT (n : Nat) : Str := ⟨(binL n).toArray⟩
section
open PySem.Builtin PySem.Builtin.Int PySem.Builtin.Float
variable {prog : Program} {w : World} {A : Around} {E : Value → Shared → Prop} {s : Shared} {t : Tok}
def fB : FormatSpec := { align := 62, type := some 98 }
theorem parse_b : parseFormatSpec (Str.ofString "b").cps.toList "int" 62 = .ok fB := by rfl
theorem field_b {n : Nat} {Q : Value → Shared → Prop} (hl : (binT n).length ≤ sizeLine) (h : ∀ t' k, Q (.str (binT n) t') { s with toks := k }) : wpAny (model prog w) A (formatField (.int (n : Int) t) (Str.ofString "b")) Q E s := by
  refine PySem.W.KXf.field_int (spec' := Str.ofString "b") (y := binT n) rfl (by decide +kernel) (by decide +kernel) (fun u => ?_) h
  apply PySem.W.KPc.meets_of
  intro prog w A s P E k
  unfold Builtin.«int.__format__»
  have hne : ((Str.ofString "b").length == 0) = false := by decide +kernel
  have hasc : (((Str.ofString "b").cps.toList.drop 1).any (· ≥ 128) || ((Str.ofString "b").cps.getD 0 0 ≥ 128 && !([60, 62, 61, 94] : List Nat).contains ((Str.ofString "b").cps.getD 1 0))) = false := by decide +kernel
  simp only [selfAndOne, noKeywords, Int.intOfSelf, asInt?, asStr?, List.isEmpty_nil, if_true, pure_bind, bind_pure, bind_assoc, hne, hasc, Bool.false_eq_true, if_false,
    show (Value.str (Str.ofString "b") u == Value.none) = false from rfl]
  refine wpAny_bind (wpAny_typeNameOf (T := "str") (typeIs_str _ _ _) (by decide) fun _ => ?_)
  refine wpAny_bind (wpAny_typeNameOfCut_int ?_)
  simp only [parse_b]
  rw [if_pos (by decide +kernel)]
  have ne : Nat.toDigits 2 n ≠ [] := Nat.toDigits_ne_nil
  have main : intField' fB (decide ((n : Int) < 0)) [] ((Nat.toDigits 2 ((n : Int)).natAbs).map Char.toNat) [] 4 = binT n := by
    rw [decide_eq_false (show ¬ (n : Int) < 0 by omega), Int.natAbs_natCast]
    unfold binT binL
    cases hd : Nat.toDigits 2 n with
    | nil => exact absurd hd ne
    | cons c cs =>
      have go : ∀ L : List Nat, L.isEmpty = false → intField' fB false [] L [] 4 = ⟨L.toArray⟩ := fun L hL => by
        unfold intField'
        rw [hL]
        show (⟨(List.replicate (((-1 : Int) - (0 + 0 + 0) - ((List.replicate ((0 : Int).toNat - L.length) 48 ++ L).length : Int)).toNat) 32 ++ [] ++ [] ++ List.replicate 0 32 ++ (List.replicate ((0 : Int).toNat - L.length) 48 ++ L) ++ [] ++ List.replicate 0 32).toArray⟩ : Str) = ⟨L.toArray⟩
        have r0 : (0 : Int).toNat - L.length = 0 := Nat.zero_sub _
        have r1 : ((-1 : Int) - (((0 : Nat) : Int) + ((0 : Nat) : Int) + ((0 : Nat) : Int)) - (L.length : Int)).toNat = 0 := by omega
        rw [r0, List.replicate_zero, List.replicate_zero, List.nil_append, r1]
        simp
      exact go _ rfl
  show wpAny (model prog w) A (retStr _) P E s
  refine PySem.W.KXf.ret_text (T := binT n) ?_ ?_ k
  · exact main
  · refine Nat.le_trans (Nat.le_of_eq ?_) hl
    exact congrArg Str.length main
end
section
variable {X : Cx}
/-- f"{n:b}" -/
theorem pe_fmtB {e spec : Expr} {te : TE} {pos : Pos} (he : PE X e te) (hs : PE X spec (tC (.str (Str.ofString "b")))) : PE X (.FormattedValue e (-1) (some spec) pos) (fun σ H Q => te σ H fun x H1 => ∃ n : Nat, x = .int (n : Int) ∧ (binT n).length ≤ sizeLine ∧ Q (.str (binT n)) H1) := by
  refine ⟨fun pins s σ H Q I h => ?_⟩
  refine wpAny_FormattedValue_spec (thn (he.run pins s σ H _ I h) fun v s1 hv => ?_)
  obtain ⟨x, H1, I1, r1, n, rfl, hl, q⟩ := hv
  obtain ⟨t, rfl⟩ := r1
  refine thn (hs.run pins s1 σ H1 (fun y H2 => y = .str (Str.ofString "b") ∧ Q (.str (binT n)) H2) I1 ⟨rfl, q⟩) fun r s2 hr => ?_
  obtain ⟨y, H2, I2, r2, rfl, q2⟩ := hr
  obtain ⟨t2, rfl⟩ := r2
  exact ⟨_, _, rfl, field_b hl fun t' k => ⟨.str (binT n), H2, I2.tok k, ⟨_, rfl⟩, q2⟩⟩
end
theorem cnt_nat (c : Nat) : ∀ l : List Nat, cnt c l = ((l.count c : Nat) : Int)
  | [] => by rfl
  | x :: l => by
    have ih : countIn (.str ⟨#[c]⟩) (l.map fun n => PyData.str ⟨#[n]⟩) = _ := cnt_nat c l
    show (if same (PyData.str ⟨#[x]⟩) (.str ⟨#[c]⟩) = true then 1 else 0) + countIn (.str ⟨#[c]⟩) (l.map fun n => PyData.str ⟨#[n]⟩) = _
    rw [ih, List.count_cons]
    have e : same (PyData.str ⟨#[x]⟩) (PyData.str ⟨#[c]⟩) = (x == c) := by
      show ((⟨#[x]⟩ : Str) == ⟨#[c]⟩) = _
      by_cases h : x = c
      · subst h
        simp
      · have h2 : ((⟨#[x]⟩ : Str) == ⟨#[c]⟩) = false := beq_eq_false_iff_ne.mpr fun z => h (by injection z with z; injection z with z; injection z with z)
        rw [h2]
        exact (beq_eq_false_iff_ne.mpr h).symm
    rw [e]
    by_cases h : (x == c) = true
    · rw [if_pos h, if_pos h]
      omega
    · rw [if_neg h, if_neg h]
      omega
theorem bitsB_half (N n : Nat) : (bitsB (N + 1) n).length = n % 2 + (bitsB N (n / 2)).length := by
  unfold bitsB
  have e : ((fun j => n.testBit j) ∘ Nat.succ) = fun j => (n / 2).testBit j := funext fun j => Nat.testBit_succ n j
  rw [List.range_succ_eq_map, List.filter_cons, List.filter_map, e, Nat.testBit_zero]
  by_cases h : n % 2 = 1
  · rw [if_pos (decide_eq_true h), List.length_cons, List.length_map]
    omega
  · rw [if_neg (by simpa using h), List.length_map]
    omega
theorem binL_big {n : Nat} (h : 2 ≤ n) : binL n = binL (n / 2) ++ [n % 2 + 48] := by
  unfold binL
  rw [Nat.toDigits_of_base_le (by decide) h, List.map_append]
  congr 1
  have : n % 2 < 2 := Nat.mod_lt _ (by decide)
  rcases (show n % 2 = 0 ∨ n % 2 = 1 by omega) with e | e <;> rw [e] <;> rfl
theorem binL_small {n : Nat} (h : n < 2) : binL n = [n + 48] := by
  unfold binL
  rw [Nat.toDigits_of_lt_base h]
  rcases (show n = 0 ∨ n = 1 by omega) with e | e <;> rw [e] <;> rfl
/-- so many ones as there are bits -/
theorem ones_bits : ∀ (N n : Nat), n < 2 ^ N → (binL n).count 49 = (bitsB N n).length
  | 0, n, h => by
    have : n = 0 := by simpa using h
    subst this
    rw [binL_small (by decide), bits_zero]
    rfl
  | N + 1, n, h => by
    rw [bitsB_half]
    have h2 : n / 2 < 2 ^ N := by
      rw [Nat.pow_succ] at h
      omega
    by_cases b : 2 ≤ n
    · rw [binL_big b, List.count_append, ones_bits N (n / 2) h2, List.count_singleton]
      rcases (show n % 2 = 0 ∨ n % 2 = 1 by omega) with e | e <;> rw [e] <;> simp <;> omega
    · rw [binL_small (by omega), show n / 2 = 0 by omega, bits_zero]
      rcases (show n = 0 ∨ n = 1 by omega) with e | e <;> subst e <;> rfl
theorem bin_len : ∀ (N n : Nat), n < 2 ^ N → (binL n).length ≤ N + 1
  | 0, n, h => by
    have : n = 0 := by simpa using h
    subst this
    rw [binL_small (by decide)]
    exact Nat.le_refl _
  | N + 1, n, h => by
    have h2 : n / 2 < 2 ^ N := by
      rw [Nat.pow_succ] at h
      omega
    by_cases b : 2 ≤ n
    · rw [binL_big b, List.length_append]
      have := bin_len N (n / 2) h2
      simp
      omega
    · rw [binL_small (by omega)]
      simp
theorem count_bin {N n : Nat} (h : n < 2 ^ N) : Txt.count (binT n) (Str.ofString "1") = (((bitsB N n).length : Nat) : Int) := by
  have e : (Str.ofString "1") = ⟨#[49]⟩ := by decide +kernel
  rw [e, count_cnt, cnt_nat]
  show (((binL n).toArray.toList.count 49 : Nat) : Int) = _
  rw [ones_bits N n h]
theorem binT_len {N n : Nat} (h : n < 2 ^ N) (hN : N < 16000000) : (binT n).length ≤ sizeLine := by
  have := bin_len N n h
  show (binL n).toArray.size ≤ _
  rw [List.size_toArray, sizeLine_eq]
  omega
end Vx
namespace Vx
open PySem PySem.Spec PyProof.Rows L2
/-! ### a dict comprehension whose keys are tuples of ints -/
theorem set_compT {X : Cx} {pins : List (Addr × Obj)} {σ : L2.St} {H : Hp} {s : Shared} {E : Value → Shared → Prop} {D b : Addr} {kvs : List (List L2.Key × V)} {k : List L2.Key} {v : V} {r : Value} {Q : Unit → Shared → Prop} (hu : X.A.units < cLine) (I : Inv X pins σ H s)
    (hD : H D = some (.dT kvs)) (few : kvs.length < sizeLine) (eb : H b = some (.tup (k.map kV))) (rv : RelV v r) (h : ∀ s', Inv X pins σ (upd H D (.dT (putK kvs k v))) s' → Q () s') : wpAny (model X.prog X.w) X.A (dictSet D (.ref b) r) Q E s := by
  obtain ⟨lim, notSys, xs, rel, at_⟩ := dt_of I.hok hD
  have lx : xs.length ≤ sizeLine := Paired.length rel ▸ lim
  have lp := length_putK kvs k v
  refine wpAny_dictSet_heap (hsz := lx) (knd := tupleKind (mixKind X.prog X.w)) hu (key_of I.hok eb) at_ fun h' after same => h _ ?_
  obtain ⟨q, es, ep, gq, a1, a2, a3, _, a4⟩ := after
  have other : ∀ c ys, H c = some (.tup ys) → upd H D (.dT (putK kvs k v)) c = some (.tup ys) := fun c ys ec => by
    rw [upd_ne fun e => ?_]
    · exact ec
    · rw [e, hD] at ec
      cases ec
  exact d_write I (by rw [hD]; exact True.intro) same ⟨q, gq⟩ ⟨by omega, notSys, _, (rel.put k eb rv).keeps other, q, es, ep, gq, a1, a2, a3, a4⟩
/-- what one turn of the comprehension asks -/
def AskT (g : TG) (tt : TT) (tk tv : TE) (vs : List Nat) (σ0 : L2.St) (D : Addr) (Nx : Hp → Prop) (x : V) (H' : Hp) : Prop :=
  g x σ0 H' fun σ2 H2 => wipe σ2 vs = σ0 ∧ tt σ2 H2 fun b H3 =>
    if b = true then tk σ2 H3 fun y H4 => tv σ2 H4 fun z H5 => ∃ (kvs : List (List L2.Key × V)) (k : List L2.Key) (b : Addr), y = .ref b ∧ H5 b = some (.tup (k.map kV)) ∧ H5 D = some (.dT kvs) ∧ kvs.length < sizeLine ∧ Nx (upd H5 D (.dT (putK kvs k z))) else Nx H3
/-- one turn, in the comprehension's own block Y -/
theorem turnT {Y : Cx} {tg kx vx : Expr} {ifs : List Expr} {g : TG} {tt : TT} {tk tv : TE} {vs : List Nat} {σ0 : L2.St} {J : It} {fp : List Addr} {it D : Addr} {tn : Nat → Heap → Prop} {Nx : Hp → Prop} {R : Result → Shared → Prop} {Ex : Value → Shared → Prop} {G : Shared → Prop} {i : Nat} {H0 : Hp} {s0 : Shared}
    (hu : Y.A.units < cLine) (calm : Y.calm = true) (quiet : Y.xe = fun _ _ => False) (pg : PG Y tg g) (pt : PTs Y ifs tt) (pk : PE Y kx tk) (pv : PE Y vx tv) (T : Turn Y.prog Y.w Y.K tg J fp it tn)
    (own : ∀ {σ' : L2.St} {H' : Hp} {s' : Shared}, Inv Y [] σ' H' s' → (∀ b ∈ fp, H' b = none) → ∀ b ∈ fp, FpOk Y [] H' b)
    (I0 : Inv Y [] σ0 H0 s0) (st0 : tn i s0.heap) (no0 : ∀ b ∈ fp, H0 b = none) (go : J.go i H0) (ask : ∀ x H', J.yld i H0 x H' → AskT g tt tk tv vs σ0 D Nx x H')
    (fin : ∀ {s' : Shared} {H' : Hp}, Inv Y [] σ0 H' s' → tn (i + 1) s'.heap → (∀ b ∈ fp, H' b = none) → Nx H' → G s') :
    wpAny (model Y.prog Y.w) Y.A (pyNext (.ref it)) (fun r s₁ => match r with
      | none => R (.ok .next) s₁
      | some v => wpAny (model Y.prog Y.w) Y.A (letOwnedTupleGo tg (.ref it) v) (fun _ s₁' => wpAny (model Y.prog Y.w) Y.A (assign tg Y.env v) (fun _ s₂ =>
          wpAny (model Y.prog Y.w) Y.A (forIn ifs true fun c r => if r = true then do let ok ← isTrue c Y.env (eval c Y.env); pure (ForInStep.yield ok) else pure (ForInStep.yield r)) (fun ok s₃ =>
            if ok = true then wpAny (model Y.prog Y.w) Y.A (eval kx Y.env) (fun kv s₄ => wpAny (model Y.prog Y.w) Y.A (eval vx Y.env) (fun vv s₅ =>
              wpAny (model Y.prog Y.w) Y.A (dictSet D kv vv) (fun _ s₆ => G s₆) Ex s₅) Ex s₄) Ex s₃
            else G s₃) Ex s₂) Ex s₁') Ex s₁) Ex s0 := by
  have first := T.item Y rfl rfl rfl calm i [] s0 _ H0 (fun _ _ => False) I0 (own I0 no0) st0 go
  refine thnF first fun r s1 ⟨u, er, took⟩ => ?_
  subst er
  refine thnF took fun _ s2 ⟨x, H1, I1, rx, yx, st1, no1⟩ => ?_
  have J1 := I1.pinned (own I1 no1) (T.obj _ _ st1)
  have rg := pg.run _ s2 _ H1 x u _ J1 rx (ask x H1 yx)
  rw [quiet] at rg
  refine thnF rg fun _ s3 ⟨σ2, H2, I2, back, q2⟩ => ?_
  have rt := pt.run _ s3 σ2 H2 _ I2 q2
  rw [quiet] at rt
  refine thnF rt fun b s4 ⟨H3, I3, q3⟩ => ?_
  -- the end of the turn
  have close : ∀ {s' : Shared} {H' : Hp}, Inv Y ([] ++ pinsAt fp s2.heap) σ2 H' s' → Nx H' → G s' := fun {s' H'} I' nx => by
    have kept : ∀ c ∈ fp, ∀ o, s2.heap.get? c = some o → s'.heap.get? c = some o ∧ H' c = none := fun c hc o e => by
      have z := I'.pin (c, o) (List.mem_append_right _ (List.mem_append_right _ (mem_pinsAt hc e)))
      exact ⟨z.1, z.2.1⟩
    have len : σ0.length = σ2.length := by rw [← back, wipe_length]
    refine fin ((I'.unpinned (pins := [])).weak len fun j v e => ?_) (T.keep _ _ _ st1 fun c hc o e => (kept c hc o e).1) (fun c hc => ?_) nx
    · rw [← back] at e
      exact (wipe_some e).1
    · obtain ⟨o, e, _⟩ := T.obj _ _ st1 c hc
      exact (kept c hc o e).2
  cases b with
  | false => exact close I3 q3
  | true =>
    have rk := pk.run _ s4 σ2 H3 _ I3 q3
    rw [quiet] at rk
    refine thnF rk fun z s5 ⟨yk, H4, I4, ry, q4⟩ => ?_
    have rv := pv.run _ s5 σ2 H4 _ I4 q4
    rw [quiet] at rv
    refine thnF rv fun z2 s6 ⟨yv, H5, I5, rz, kvs, k, c, ek, hc, hD, few, nx⟩ => ?_
    subst ek
    cases ry
    exact set_compT hu I5 hD few hc rz fun s7 I7 => close I7 nx
section
variable {X : Cx}
/-- {k: v for target in iter if ..}: D the new dict -/
def tDcT (wi : TI) (g : TG) (tt : TT) (tk tv : TE) (vs : List Nat) : TE := fun σ H Q => wi σ H fun J H1 => ∀ D, H1 D = none → ∃ W : Nat → Nat → Hp → Prop, (∃ m, W 0 m (upd H1 D (.dT []))) ∧ ∀ i m H, W i m H →
  (J.stop i H ∧ Q (.ref D) H) ∨ (J.go i H ∧ ∃ Nx : Hp → Prop, (∀ H', Nx H' → ∃ m', m' < m ∧ W (i + 1) m' H') ∧ ∀ x H', J.yld i H x H' → AskT g tt tk tv vs (wipe σ vs) D Nx x H')
theorem dc_core {pins : List (Addr × Obj)} {s : Shared} {σ : L2.St} {H : Hp} {Q : VK} {kx vx tg iter : Expr} {ifs : List Expr} {scope : Scope} {own : List (Str × Nat)} {pos pos' : Pos} {wi : TI} {g : TG} {tt : TT} {tk tv : TE} {use : Option (Value → Sem Unit)} {Qf : Value → Shared → Prop} (calm : X.calm = true) (hu : X.A.units < cLine) (hN : X.N.Nodup) (I : Inv X pins σ H s) (hi : PI X tg iter wi) (ok : BlkOk X.N X.env.scope scope own)
    (hg : ∀ (s : Shared) (H : Hp) (C : Addr) (cl : List (Str × Addr)) (fp : List Addr), PG (X.blk s H scope (compEnvC scope cl C X.env) fp) tg g) (ht : ∀ (s : Shared) (H : Hp) (C : Addr) (cl : List (Str × Addr)) (fp : List Addr), PTs (X.blk s H scope (compEnvC scope cl C X.env) fp) ifs tt)
    (hk : ∀ (s : Shared) (H : Hp) (C : Addr) (cl : List (Str × Addr)) (fp : List Addr), PE (X.blk s H scope (compEnvC scope cl C X.env) fp) kx tk)
    (hv : ∀ (s : Shared) (H : Hp) (C : Addr) (cl : List (Str × Addr)) (fp : List Addr), PE (X.blk s H scope (compEnvC scope cl C X.env) fp) vx tv) (hs : ∀ x, foldedSetIterable iter X.env x = pure x) (h : tDcT wi g tt tk tv (own.map (·.2)) σ H Q)
    (hRR : ∀ D C s' m H', Inv X pins σ H' s' → Q (.ref D) H' → s'.heap.Ns C m → FpOk X pins H' C → compPost (model X.prog X.w) X.A X.xe use Qf (.ref D) C (.ok .next) s') :
    wpAny (model X.prog X.w) X.A (comprehension (.DictComp kx vx [⟨tg, iter, ifs, 0⟩] scope pos) scope X.env pos' newDict false (eval iter X.env) use) Qf X.xe s := by
  have hfree : ∀ y ∈ scope.names, y.2 = .free → ∃ c, X.env.cells.lookup y.1 = some c := fun y hy e => (ok.free y hy e).elim (fun k => I.ok.has _ (.inl k)) fun k => I.ok.has _ (.inr k)
  refine wpAny_comprehension_free (use := use) rfl hs (closure_ok hfree) ok.kind (fun y hy e => by rw [ok.uniq y hy, e]) (thn (hi.run pins s σ H _ I h) fun xv s1 hx => thn hx fun itv sI got => ?_)
  obtain ⟨it, fp, tn, J, HI, rfl, II, T, stI, fpI, q⟩ := got
  refine wpAny_newObj_type (newEnv_comp ?_)
  -- the new dict
  obtain ⟨D, eD⟩ : ∃ D, D = sI.heap.objs.size := ⟨_, rfl⟩
  have nD : HI D = none := II.hok.fresh (Nat.le_of_eq eD.symm)
  obtain ⟨W, ⟨m0, w0⟩, turns⟩ := q D nD
  have hE : ∃ sE : Shared, sE = { sI with heap := sI.heap.push { cls := .type "dict", data := .dict #[] } } := ⟨_, rfl⟩
  obtain ⟨sE, eE⟩ := hE
  have pushE : sE.heap = sI.heap.push { cls := .type "dict", data := .dict #[] } := by rw [eE]
  have IE : Inv X pins σ (upd HI D (.dT [])) sE := by
    rw [eE]
    refine II.laid (t' := sI.toks) (fun b o e => Heap.get?_push_of_some _ e) (Nat.le_of_eq eD.symm) ?_
    rw [eD]
    exact dt_empty sI.heap II.big
  have fpE : ∀ b ∈ fp, FpOk X pins (upd HI D (.dT [])) b ∧ b < sE.heap.objs.size := fun b hb => by
    obtain ⟨o, e, _⟩ := T.obj _ _ stI b hb
    have lb := Heap.lt_size e
    obtain ⟨no, more⟩ := fpI b hb
    refine ⟨⟨?_, more⟩, by rw [pushE, Heap.size_push]; exact Nat.lt_succ_of_lt lb⟩
    rw [upd_ne (Nat.ne_of_lt (by rw [eD]; exact lb))]
    exact no
  have stE : tn 0 sE.heap := T.keep _ _ _ stI fun b _ o e => by rw [pushE]; exact Heap.get?_push_of_some _ e
  -- the block
  have IB := block_start IE ok hN fpE
  have pgB := hg sE (upd HI D (.dT [])) sE.heap.objs.size (cellsFrom (sE.heap.objs.size + 1) scope.names (cloFrom X.env.cells scope.names [])) fp
  have ptB := ht sE (upd HI D (.dT [])) sE.heap.objs.size (cellsFrom (sE.heap.objs.size + 1) scope.names (cloFrom X.env.cells scope.names [])) fp
  have pkB := hk sE (upd HI D (.dT [])) sE.heap.objs.size (cellsFrom (sE.heap.objs.size + 1) scope.names (cloFrom X.env.cells scope.names [])) fp
  have pvB := hv sE (upd HI D (.dT [])) sE.heap.objs.size (cellsFrom (sE.heap.objs.size + 1) scope.names (cloFrom X.env.cells scope.names [])) fp
  rw [← eD]
  have eS : ({ sI with heap := sI.heap.push { cls := .type "dict", data := .dict #[] } } : Shared) = sE := eE.symm
  rw [eS]
  show codeAny _ _ (.compStart (.DictComp kx vx [⟨tg, iter, ifs, 0⟩] scope pos) 0 (.ref it) (.ref D) (compEnvC scope (cellsFrom (sE.heap.objs.size + 1) scope.names (cloFrom X.env.cells scope.names [])) sE.heap.objs.size X.env)) _ _
  have noE : ∀ b ∈ fp, upd HI D (.dT []) b = none := fun b hb => (fpE b hb).1.1
  obtain ⟨env, eEnv⟩ : ∃ env, env = compEnvC scope (cellsFrom (sE.heap.objs.size + 1) scope.names (cloFrom X.env.cells scope.names [])) sE.heap.objs.size X.env := ⟨_, rfl⟩
  have locE : env.locals = sE.heap.objs.size := by rw [eEnv]; rfl
  rw [← eEnv] at IB pgB ptB pkB pvB ⊢
  obtain ⟨HE, eHE⟩ : ∃ HE, HE = upd HI D (.dT []) := ⟨_, rfl⟩
  rw [← eHE] at IE IB pgB ptB pkB pvB w0 noE fpE
  obtain ⟨sB, eB⟩ : ∃ sB : Shared, sB = { sE with heap := pushCells (sE.heap.push { cls := .type "dict", data := .dict #[] }) scope.names } := ⟨_, rfl⟩
  rw [← eB] at IB ⊢
  have stB : tn 0 sB.heap := T.keep _ _ _ stE fun b _ o e => by rw [eB]; exact pushCells_keeps _ _ _ _ (Heap.get?_push_of_some _ e)
  have ownB : ∀ {σ' : L2.St} {H' : Hp} {s' : Shared}, Inv (X.blk sE HE scope env fp) [] σ' H' s' → (∀ b ∈ fp, H' b = none) → ∀ b ∈ fp, FpOk (X.blk sE HE scope env fp) [] H' b := fun {σ' H' s'} I' no b hb =>
    ⟨no b hb, (I'.ok.exf b hb).1, I'.ok.exfs b hb, .inl hb, fun x c e => (I'.ok.exf b hb).2 x c e, fun p hp => absurd (show p ∈ ([] : List (Addr × Obj)) ++ [] from hp) (by simp)⟩
  have loop : codeAny (model X.prog X.w) X.A (.compLoop (.DictComp kx vx [⟨tg, iter, ifs, 0⟩] scope pos) 0 (.ref it) (.ref D) env) (compPost (model X.prog X.w) X.A X.xe use Qf (.ref D) sE.heap.objs.size) sB := by
    refine compLoop_anyD (fun n s' => ∃ i H', Inv (X.blk sE HE scope env fp) [] (wipe σ (own.map (·.2))) H' s' ∧ tn i s'.heap ∧ (∀ b ∈ fp, H' b = none) ∧ W i n H') ?_ m0 ⟨0, HE, IB, stB, noE, w0⟩
    rintro n s5 ⟨i, H5, I5, st5, no5, w5⟩
    rcases turns i n H5 w5 with ⟨stop, done⟩ | ⟨go, Nx, less, ask⟩
    · refine thnF (T.done (X.blk sE HE scope env fp) rfl rfl rfl calm i [] s5 _ H5 (fun _ _ => False) I5 (ownB I5 no5) st5 stop) fun r s6 ⟨er, I6⟩ => ?_
      subst er
      have IX : Inv X pins σ H5 s6 := IE.call' (ch := fp) I6.os I6.base I6.hok I6.bare fun b hb => by
        obtain ⟨_, f1, _, f3, f4, f5⟩ := (fpE b hb).1
        exact ⟨f3, f1, f4, f5⟩
      have nC : H5 sE.heap.objs.size = none := by
        rw [← locE]
        exact I6.free
      obtain ⟨m, hn, _⟩ := I6.loc
      have hn : s6.heap.Ns env.locals m := hn
      rw [locE] at hn
      exact hRR D _ s6 m H5 IX done hn (IE.fpOk (Nat.le_refl _) nC)
    · refine turnT (Y := X.blk sE HE scope env fp) (G := fun s' => ∃ m, m < n ∧ ∃ i H', Inv (X.blk sE HE scope env fp) [] (wipe σ (own.map (·.2))) H' s' ∧ tn i s'.heap ∧ (∀ b ∈ fp, H' b = none) ∧ W i m H') hu calm rfl pgB ptB pkB pvB T ownB I5 st5 no5 go ask fun {s' H'} I' st' no' nx => ?_
      obtain ⟨m, lm, w'⟩ := less H' nx
      exact ⟨m, lm, i + 1, H', I', st', no', w'⟩
  exact codeAny_compStart_dict loop (T.self X.A 0 _ _ _ stB loop)
theorem pe_dcT {kx vx tg iter : Expr} {ifs : List Expr} {scope : Scope} {own : List (Str × Nat)} {pos : Pos} {wi : TI} {g : TG} {tt : TT} {tk tv : TE} (calm : X.calm = true) (hu : X.A.units < cLine) (hN : X.N.Nodup) (hi : PI X tg iter wi) (ok : BlkOk X.N X.env.scope scope own)
    (hg : ∀ (s : Shared) (H : Hp) (C : Addr) (cl : List (Str × Addr)) (fp : List Addr), PG (X.blk s H scope (compEnvC scope cl C X.env) fp) tg g) (ht : ∀ (s : Shared) (H : Hp) (C : Addr) (cl : List (Str × Addr)) (fp : List Addr), PTs (X.blk s H scope (compEnvC scope cl C X.env) fp) ifs tt)
    (hk : ∀ (s : Shared) (H : Hp) (C : Addr) (cl : List (Str × Addr)) (fp : List Addr), PE (X.blk s H scope (compEnvC scope cl C X.env) fp) kx tk)
    (hv : ∀ (s : Shared) (H : Hp) (C : Addr) (cl : List (Str × Addr)) (fp : List Addr), PE (X.blk s H scope (compEnvC scope cl C X.env) fp) vx tv) (hs : ∀ x, foldedSetIterable iter X.env x = pure x := by intro _; rfl) :
    PE X (.DictComp kx vx [⟨tg, iter, ifs, 0⟩] scope pos) (tDcT wi g tt tk tv (own.map (·.2))) := by
  refine ⟨fun pins s σ H Q I h => ?_⟩
  rw [arm_eval_DictComp]
  refine dc_core (use := none) calm hu hN I hi ok hg ht hk hv hs h fun D C s' m H' I' q hn f => ?_
  obtain ⟨f0, f1, f2, f3, f4, f5⟩ := f
  exact ⟨m, hn, fun h'' sb => ⟨.ref D, H', I'.turned (t' := s'.toks) (fun b o hb e => (sb.2 b hb).trans e) f0 f1 f3 f4 f5, rfl, q⟩⟩
theorem sw_dict {kx vx : Expr} {gs : List Comprehension} {scope : Scope} {pos py : Pos} {y : Str} {l : Nat} {env : Env} (hk : env.scope.kind = .function) (hy : env.scope.names.lookup y = some .local) (hl : (py.line == pos.line) = true)
    (ha : (scope.names.any fun (n, k) => n == y && (k == .local || k == .cell)) = false) : swapsWith (.DictComp kx vx gs scope pos) (some (.Name y py)) l env = pure true := by
  have ky : env.kindOf y = some .local := hy
  have hb : env.blockKind = .function := by unfold Env.blockKind; rw [hk]; rfl
  unfold swapsWith
  simp only [hb, ky, ha, Expr.pos, hl]
  rfl
theorem ps_setDcT {i : Nat} {y : Str} {py : Pos} {kx vx tg iter : Expr} {ifs : List Expr} {scope : Scope} {own : List (Str × Nat)} {pos spos : Pos} {wi : TI} {g : TG} {tt : TT} {tk tv : TE} (calm : X.calm = true) (hu : X.A.units < cLine) (hN : X.N.Nodup) (hy : X.N[i]? = some y) (hyl : X.env.scope.names.lookup y = some .local)
    (hsw : swapsWith (.DictComp kx vx [⟨tg, iter, ifs, 0⟩] scope pos) (some (.Name y py)) spos.line X.env = pure true) (hi : PI X tg iter wi) (ok : BlkOk X.N X.env.scope scope own)
    (hg : ∀ (s : Shared) (H : Hp) (C : Addr) (cl : List (Str × Addr)) (fp : List Addr), PG (X.blk s H scope (compEnvC scope cl C X.env) fp) tg g) (ht : ∀ (s : Shared) (H : Hp) (C : Addr) (cl : List (Str × Addr)) (fp : List Addr), PTs (X.blk s H scope (compEnvC scope cl C X.env) fp) ifs tt)
    (hk : ∀ (s : Shared) (H : Hp) (C : Addr) (cl : List (Str × Addr)) (fp : List Addr), PE (X.blk s H scope (compEnvC scope cl C X.env) fp) kx tk)
    (hv : ∀ (s : Shared) (H : Hp) (C : Addr) (cl : List (Str × Addr)) (fp : List Addr), PE (X.blk s H scope (compEnvC scope cl C X.env) fp) vx tv) (hs : ∀ x, foldedSetIterable iter X.env x = pure x := by intro _; rfl) :
    PS X (.Assign [.Name y py] (.DictComp kx vx [⟨tg, iter, ifs, 0⟩] scope pos) spos) (tAsg (tDcT wi g tt tk tv (own.map (·.2))) (gName i)) := by
  refine ⟨fun pins s σ H D I h => ?_⟩
  rw [exec_Assign_Name_used _ _ _ _ hsw]
  refine wpAny_bind (wpAny_standAt (wpAny_bind ?_))
  show wpAny _ X.A (do let _ ← comprehension (.DictComp kx vx [⟨tg, iter, ifs, 0⟩] scope pos) scope X.env (firstIterPos [⟨tg, iter, ifs, 0⟩] pos) newDict false (eval iter X.env) (some (assign (.Name y py) X.env))) _ _ s
  have h : tDcT wi g tt tk tv (own.map (·.2)) σ H (fun x H1 => gName i x σ H1 D.nx) := h
  refine wpAny_bind (thn (dc_core (Qf := fun _ s' => SP X pins D .next s') calm hu hN I hi ok hg ht hk hv hs h fun L C s' m H' I' q hn f => ?_) fun _ s' hq => wpAny_pure (wpAny_pure hq))
  show wpAny _ _ (assign (.Name y py) X.env (.ref L)) _ _ _
  refine wpAny_assign_Name (store_ok2 (v := V.ref L) I' hN hy (.inl hyl) rfl (fun s2 I2 ⟨a, sb, ha⟩ => ?_) (.inr hyl))
  obtain ⟨f0, f1, f2, f3, f4, f5⟩ := f
  have haC : C ≠ a := by
    rcases ha with z | z
    · rw [z]; exact f1
    · exact fun e => f4 y a z e.symm
  refine ⟨m, hn.sameBut sb haC, fun h3 sb3 => ?_⟩
  exact ⟨_, H', I2.turned (t' := s2.toks) (fun b o hb e => (sb3.2 b hb).trans e) f0 f1 f3 f4 f5, q⟩
/-- over a walk -/
theorem dcT_it {J : It} {n : Nat} {G : Hp → Prop} {Y : Nat → Hp → V → Hp → Prop} (w : Walk J n G Y) {g : TG} {tt : TT} {tk tv : TE} {vs : List Nat} {σ : L2.St} {H1 : Hp} {D : Addr} {Qd : Hp → Prop} (Pv : Nat → Hp → Prop) (h0 : Pv 0 (upd H1 D (.dT []))) (hG : ∀ i H, i ≤ n → Pv i H → G H)
    (hs : ∀ i x H H', i < n → Pv i H → Y i H x H' → AskT g tt tk tv vs (wipe σ vs) D (Pv (i + 1)) x H') (hd : ∀ H, Pv n H → Qd H) :
    ∃ W : Nat → Nat → Hp → Prop, (∃ m, W 0 m (upd H1 D (.dT []))) ∧ ∀ i m H, W i m H →
      (J.stop i H ∧ Qd H) ∨ (J.go i H ∧ ∃ Nx : Hp → Prop, (∀ H', Nx H' → ∃ m', m' < m ∧ W (i + 1) m' H') ∧ ∀ x H', J.yld i H x H' → AskT g tt tk tv vs (wipe σ vs) D Nx x H') := by
  refine ⟨fun i m H => m + i = n ∧ Pv i H, ⟨n, rfl, h0⟩, ?_⟩
  rintro i m H ⟨e, p⟩
  have st := hG i H (by omega) p
  by_cases lt : i < n
  · exact .inr ⟨w.goes i H lt st, Pv (i + 1), fun H' p' => ⟨m - 1, by omega, by omega, p'⟩, fun x H' y => hs i x H H' lt p (w.yields i H x H' lt st y)⟩
  · have : i = n := by omega
    subst this
    exact .inl ⟨w.stops H st, hd H p⟩
end
end Vx
namespace Vx
open PySem PySem.Spec PyProof.Rows L2
/-! ### enumerate(v), v a tuple -/
set_option maxHeartbeats 1000000 in
theorem meets_enumerate_new1 {v : Value} {o : Obj} {H : Heap → Prop} (B : Begins v o H) :
    Meets (Builtin.«enumerate.__new__» ⟨[.type "enumerate", v], []⟩) (fun _ R s => H s.heap ∧
      R (.ok (.ret (.ref (s.heap.push o).objs.size))) { s with heap := (s.heap.push o).push { cls := .type "enumerate", data := .fields #[.none, .bool false, .ref s.heap.objs.size, rawInt 0, .none, .none] } }) :=
  .of_wp fun prog w A R s h => by
    obtain ⟨hp, g, d, tk, os⟩ := s; obtain ⟨h1, h⟩ := h
    have hsub := sub_enumerate
    have q1 : ∀ {A' : Around} {E : Value → Shared → Prop} {Q : Value → Shared → Prop}, Q (.ref hp.objs.size) ⟨hp.push o, g, d, tk, os⟩ → wpAny (model prog w) A' (pyIter v) Q E ⟨hp, g, d, tk, os⟩ :=
      fun q => B.iter prog w _ _ ⟨hp, g, d, tk, os⟩ _ h1 q
    wp_walk using q1
    refine wpAny_stack_any fun st => wpAny_pure ?_
    split
    · rename_i c _ _ _ _ _
      cases (c == Value.type "enumerate")
      · wp_walk using q1
        exact ⟨_, rfl, h⟩
      · wp_walk using q1
        exact ⟨_, rfl, h⟩
    · wp_walk using q1
      exact ⟨_, rfl, h⟩
theorem call_enumerate1 {prog : Program} {w : World} {A : Around} {E : Value → Shared → Prop} {s : Shared} {v : Value} {o : Obj} {H : Heap → Prop} {Q : Value → Shared → Prop} (B : Begins v o H) (h1 : H s.heap)
    (h : ∀ h', IsEnum h' (s.heap.objs.size + 1) s.heap.objs.size 0 .none → h'.get? s.heap.objs.size = some o → h'.objs.size = s.heap.objs.size + 2 →
      (∀ b o, s.heap.get? b = some o → h'.get? b = some o) → Q (.ref (s.heap.objs.size + 1)) { s with heap := h' }) :
    wpAny (model prog w) A (call (.type "enumerate") [v]) Q E s := by
  refine callType_new F.called_enumerate (by decide) (F.typeCall_enumerate_1 _) (F.newCall_enumerate_1 _) (fun obj => F.args_object_init_2 obj _) F.entry_enumerate_new
    (meets_enumerate_new1 B) ⟨h1, ?_⟩
  have hz : (s.heap.push o).objs.size = s.heap.objs.size + 1 := Heap.size_push ..
  show _ ∧ _
  rw [hz]
  have he : IsEnum ((s.heap.push o).push { cls := .type "enumerate", data := .fields #[.none, .bool false, .ref s.heap.objs.size, rawInt 0, .none, .none] }) (s.heap.objs.size + 1) s.heap.objs.size 0 .none := by
    have := Heap.get?_push_size (s.heap.push o) (o := { cls := .type "enumerate", data := .fields #[.none, .bool false, .ref s.heap.objs.size, rawInt 0, .none, .none] }) rfl
    rw [hz] at this; exact this
  refine ⟨⟨_, he, rfl⟩, h _ he (Heap.get?_push_of_some _ (Heap.get?_push_size _ B.free)) (by rw [Heap.size_push, hz]) fun b o x => Heap.get?_push_of_some _ (Heap.get?_push_of_some _ x)⟩
def IteT (K : PySem.W.Frag) (a : Addr) : It :=
  ⟨fun i H => ∃ (xs : List V) (x : V), SqT K H a xs ∧ xs[i]? = some x, fun i H v H' => ∃ T x, v = .ref T ∧ H T = none ∧ H' = upd H T (.tup [.int (i : Nat), x]) ∧ ∀ xs, SqT K H a xs → xs[i]? = some x, fun i H => ∃ xs : List V, SqT K H a xs ∧ xs.length = i⟩
theorem turn_enumT {P : Program} {w : World} {K : PySem.W.Frag} {elts : List Expr} {kk : Nat} {tpos : Pos} (a e it : Addr) (nae : a ≠ e) (nai : a ≠ it) :
    Turn P w K (.Tuple elts kk tpos) (IteT K a) [e, it] e (fun i h => (∃ old, IsEnum h e it ((i : Nat) : Int) old) ∧ h.IsTupleIter it a i ∧ e ≠ it) where
  mem := by simp
  obj := fun i h st b hb => by
    obtain ⟨⟨old, he⟩, ⟨o, ho, hc, hd⟩, _⟩ := st
    have e' : b = e ∨ b = it := by simpa using hb
    rcases e' with z | z
    · rw [z]; exact ⟨_, he, fun v q => nomatch q⟩
    · rw [z]; exact ⟨o, ho, fun v q => by rw [hd] at q; cases q⟩
  keep := fun i h h' st k => let ⟨⟨old, he⟩, hi, hne⟩ := st; ⟨⟨old, k e (by simp) _ he⟩, hi.at fun o q => k it (by simp) o q, hne⟩
  item := by
    intro X hP hw hK hc i pins s σ H E I hf st hg
    subst hP hw hK
    obtain ⟨⟨old, he⟩, hit, hne⟩ := st
    obtain ⟨xs, x, hq, hx⟩ := hg
    obtain ⟨its, rv, p, hz⟩ := I.tuple hq
    obtain ⟨u, hu, ru⟩ := rv.get hx
    have hel : e < s.heap.objs.size := Heap.lt_size he
    have hil : it < s.heap.objs.size := by obtain ⟨_, q, _⟩ := hit; exact Heap.lt_size q
    have D := Draws.tuple (prog := X.prog) (w := X.w) (A := X.A.in1) (I.ok.hd hc) it a nai its.toArray
    have li : i < its.toArray.size := by
      have := List.getElem?_eq_some_iff.mp hu
      obtain ⟨q, _⟩ := this
      simpa using q
    refine wpAny_pyNext_enum_itemC D he ⟨hit, p⟩ li hne (by simp; exact ⟨hne, fun z => nae z.symm⟩) fun x' h' tk hx' ho hit' hT hsz hk => ?_
    have ex : x' = u := by
      have z : its.toArray[i]? = some x' := hx'
      rw [List.getElem?_toArray, hu] at z
      exact (Option.some.inj z).symm
    subst ex
    refine ⟨_, rfl, wpAny_letOwnedTupleGo_enum (s := { s with heap := h', toks := tk + 1 }) ho fun h'' he' sb => ?_⟩
    have hT2 : h''.get? s.heap.objs.size = some { cls := .type "tuple", data := .seq #[.int i tk, x'] } := (sb.2 _ (Nat.ne_of_gt hel)).trans hT
    have new : ObjOk X.prog X.w (upd H s.heap.objs.size (.tup [.int (i : Nat), x])) h'' s.heap.objs.size (.tup [.int (i : Nat), x]) :=
      ⟨by show 2 ≤ sizeLine; decide, [.int i tk, x'], .cons ⟨_, rfl⟩ (.cons ru .nil), ⟨_, hT2, rfl, _, rfl⟩⟩
    have I1 : Inv X pins σ (upd H s.heap.objs.size (.tup [.int (i : Nat), x])) { s with heap := h'', toks := tk + 1 } :=
      I.turnedNew (ch := [e, it]) (fun b ob hb q => (sb.2 b (fun z => hb (by simp [z]))).trans (hk b ob (fun z => hb (by simp [z])) (fun z => hb (by simp [z])) q)) hf (Nat.le_refl _) new
    refine ⟨.ref s.heap.objs.size, _, I1, rfl, ⟨_, x, rfl, I.hok.fresh (Nat.le_refl _), rfl, fun ys hy => by rw [I.tuple_inj hy hq]; exact hx⟩, ⟨⟨x', ?_⟩, hit'.1.at fun o q => (sb.2 it (Ne.symm hne)).trans q, hne⟩, fun b hb => ?_⟩
    · have e1 : ((i + 1 : Nat) : Int) = (i : Int) + 1 := by omega
      rw [e1]; exact he'
    · have hb' : b < s.heap.objs.size := by
        have e' : b = e ∨ b = it := by simpa using hb
        rcases e' with z | z
        · rw [z]; exact hel
        · rw [z]; exact hil
      rw [upd_ne (Nat.ne_of_lt hb')]
      exact (hf b hb).1
  done := by
    intro X hP hw hK hc i pins s σ H E I hf st hg
    subst hP hw hK
    obtain ⟨⟨old, he⟩, hit, hne⟩ := st
    obtain ⟨xs, hq, hx⟩ := hg
    obtain ⟨its, rv, p, hz⟩ := I.tuple hq
    obtain ⟨f0, f1, f2, f3, f4, f5⟩ := hf it (by simp)
    have hl := rv.length
    have D := Draws.tuple (prog := X.prog) (w := X.w) (A := X.A.in1) (I.ok.hd hc) it a nai its.toArray
    have en : i = its.toArray.size := by simp; omega
    refine wpAny_pyNext_enum_endD D he ?_ fun h' eb => ⟨rfl, I.turned (t' := s.toks) (fun b o hb q => eb b o hb q) f0 f1 f3 f4 f5⟩
    rw [← en]
    exact ⟨hit, p⟩
  self := fun A i s Q E st h => let ⟨⟨_, he⟩, _⟩ := st; wpAny_pyIter_enum he h
def iEnumT (K : PySem.W.Frag) (ta : TA) : TI := fun σ H R => ta σ H fun vs H1 => ∃ a xs, vs = [.ref a] ∧ SqT K H1 a xs ∧ R (IteT K a) H1
theorem pi_enumT {X : Cx} {e : Expr} {ta : TA} {p pos tpos : Pos} {elts : List Expr} {kk : Nat} (hg : Gl X "enumerate") (hm : X.mg "enumerate" = none) (ha : PA X [e] ta) (hs : starEach [e] X.env = [(false, eval e X.env)] := by rfl) :
    PI X (.Tuple elts kk tpos) (.Call (.Name "enumerate" p) [e] [] pos) (iEnumT X.K ta) := by
  refine ⟨fun pins s σ H R I h => ?_⟩
  refine Call_ (ld_blt I hg hm boot_enumerate (PyProof.Rows.callWith_type1 (thn (ha.run pos pins s σ H _ I h) fun us s1 ⟨vs, H1, I1, r1, q1⟩ => ?_) hs rfl))
  obtain ⟨a, xs, ex, hq, q⟩ := q1
  subst ex
  cases r1 with
  | cons r rr =>
    cases rr
    cases r
    obtain ⟨its, rv, p', hz⟩ := I1.tuple hq
    have la : a < s1.heap.objs.size := by obtain ⟨o, e, _⟩ := p'; exact Heap.lt_size e
    refine call_enumerate1 (begins_tuple a its.toArray) (show s1.heap.IsTuple a its.toArray from p') fun h' he hit hsz hk => wpAny_pyIter_enum he ?_
    have I2 : Inv X pins σ H1 { s1 with heap := h' } := I1.kept (t' := s1.toks) hk
    refine ⟨s1.heap.objs.size + 1, [s1.heap.objs.size + 1, s1.heap.objs.size], _, _, H1, rfl, I2, turn_enumT a (s1.heap.objs.size + 1) s1.heap.objs.size (Nat.ne_of_lt (Nat.lt_succ_of_lt la)) (Nat.ne_of_lt la), ⟨⟨.none, he⟩, ⟨_, hit, rfl, rfl⟩, Nat.succ_ne_self _⟩, fun b hb => ?_, q⟩
    have e' : b = s1.heap.objs.size + 1 ∨ b = s1.heap.objs.size := by simpa using hb
    have hle : s1.heap.objs.size ≤ b := by
      rcases e' with z | z
      · rw [z]; exact Nat.le_add_right _ _
      · rw [z]; exact Nat.le_refl _
    exact I1.fpOk hle (I1.hok.fresh hle)
theorem walk_enumT {K : PySem.W.Frag} {a : Addr} {xs : List V} : Walk (IteT K a) xs.length (fun H => SqT K H a xs) (YPair (fun i => some (.int (i : Nat))) (fun i => xs[i]?)) := by
  refine ⟨fun i _ hi q => ⟨xs, xs[i], q, by simp [hi]⟩, fun _ q => ⟨xs, q, rfl⟩, fun i H v H' _ q y => ?_⟩
  obtain ⟨T, x, h1, h2, h3, h4⟩ := y
  exact ⟨T, .int (i : Nat), x, h1, h2, h3, rfl, h4 xs q⟩
end Vx
namespace Vx
open PySem PySem.Spec PyProof.Rows L2
/-- isinstance of the caught error, its class told by the reading -/
theorem call_isE2 {X : Cx} {a D : Addr} {oe : Obj} {cls : Value} {d : Option Addr} {pn : List (Addr × Obj)} (C : ExcC X.K D) (hz : Zc cls d oe) (hf : ∃ vs, oe.data = .fields vs) :
    CallR (X.suite a ((a, oe) :: pn)) (.builtin "isinstance") (fun xs H Q => cls = .ref D ∧ d = none ∧ rIsE X.K D a xs H Q) := fun pins s σ H xs us Q I r h => by
  obtain ⟨h1, h2, h3⟩ := h
  subst h1 h2
  exact call_isE C hz hf pins s σ H xs us Q I r h3
theorem kit_sub {K : PySem.W.Frag} {D C : Addr} {b : Bool} (hc : PySem.W.isClsIn K C = true) (ht : PySem.W.typeIn K (.ref C) = some (.type "type")) (h1 : PySem.W.subIn K (.ref D) (.ref D) = some true) (h2 : PySem.W.subIn K (.ref D) (.ref C) = some b) :
    PySem.W.kitOne K (.ref D) (.ref C) = some b := by
  unfold PySem.W.kitOne
  by_cases e : D = C
  · subst e
    rw [h1] at h2
    rw [if_pos (beq_self_eq_true _)]
    exact h2
  · rw [if_neg (by intro q; exact e (Value.ref.inj (beq_iff_eq.mp q)))]
    unfold PySem.W.kitCls
    have hc' : (PySem.W.clsIn K C).isSome = true := hc
    have e2 : ((PySem.W.clsIn K C).isSome && PySem.W.typeIn K (.ref C) == some (.type "type")) = true := by rw [hc', ht]; rfl
    show (if ((PySem.W.clsIn K C).isSome && PySem.W.typeIn K (.ref C) == some (.type "type")) = true then PySem.W.subIn K (.ref D) (.ref C) else none) = some b
    rw [if_pos e2]
    exact h2
theorem kit_ve {K : PySem.W.Frag} {D : Addr} {b : Bool} (h2 : PySem.W.subIn K (.ref D) (.type "ValueError") = some b) : PySem.W.kitOne K (.ref D) (.type "ValueError") = some b := by
  unfold PySem.W.kitOne
  rw [if_neg (by intro q; cases (beq_iff_eq.mp q))]
  show (if PySem.W.kitMeta "ValueError" = true then PySem.W.subIn K (.ref D) (.type "ValueError") else none) = some b
  rw [if_pos (by decide +kernel)]
  exact h2
end Vx
namespace Vx
open PySem PySem.Spec PyProof.Rows L2
theorem op_notInP {X : Cx} (hu : X.A.units + 65 < cLine) : OpR X (compareOp .NotIn) (fun x y H Q => ∃ (t a : Addr) (p : Pr) (ps : List Pr), x = .ref t ∧ y = .ref a ∧ H t = some (.tup [.int p.1, .int p.2]) ∧ Cells H a ps ∧ Q (.bl (!decide (p ∈ ps))) H) := by
  intro pins s σ H x y v u Q I rx ry h
  obtain ⟨t, a, p, ps, rfl, rfl, ht, hc, q⟩ := h
  refine op_notInD hu pins s σ H _ _ v u Q I rx ry ⟨pd p, ps.map pd, .tup (tup_of ht) (.cons (.int _) (.cons (.int _) .nil)), dp_cells hc, shaped_pd p, shaped_cells ps, ?_⟩
  rw [any_pd]
  exact q
/-! ### lists of lists of pairs -/
def lp (ps : List Pr) : PyData := .list (ps.map pd)
def CellsL (H : Hp) (l : Addr) (pss : List (List Pr)) : Prop :=
  ∃ ts : List (Addr × List Pr), H l = some (.lst (ts.map fun t => V.ref t.1)) ∧ (∀ t ∈ ts, Cells H t.1 t.2) ∧ ts.map (·.2) = pss
theorem CellsL.up {H H' : Hp} {l : Addr} {pss : List (List Pr)} (e : Same H H') (h : CellsL H l pss) : CellsL H' l pss := by
  obtain ⟨ts, h1, h2, h3⟩ := h
  exact ⟨ts, e _ _ h1, fun t m => (h2 t m).up e, h3⟩
theorem CellsL.lst {H : Hp} {l : Addr} {pss : List (List Pr)} (h : CellsL H l pss) : ∃ xs, H l = some (.lst xs) ∧ xs.length = pss.length := by
  obtain ⟨ts, h1, h2, h3⟩ := h
  exact ⟨_, h1, by rw [← h3, List.length_map, List.length_map]⟩
theorem CellsL.at {H : Hp} {l : Addr} {pss : List (List Pr)} {i : Nat} {ps : List Pr} (h : CellsL H l pss) (e : pss[i]? = some ps) : ∃ xs a, H l = some (.lst xs) ∧ xs[i]? = some (.ref a) ∧ Cells H a ps := by
  obtain ⟨ts, h1, h2, rfl⟩ := h
  rw [List.getElem?_map] at e
  cases q : ts[i]? with
  | none => rw [q] at e; cases e
  | some t =>
    rw [q] at e
    refine ⟨_, t.1, h1, by rw [List.getElem?_map, q]; rfl, ?_⟩
    rw [← Option.some.inj e]
    exact h2 t (List.mem_of_getElem? q)
theorem CellsL.mut {H : Hp} {l d : Addr} {pss : List (List Pr)} {o : HO} (h : CellsL H l pss) (ne : l ≠ d) (nl : ∀ xs, H d ≠ some (.lst xs)) (nt : ∀ xs, H d ≠ some (.tup xs)) : CellsL (upd H d o) l pss := by
  obtain ⟨ts, h1, h2, h3⟩ := h
  refine ⟨ts, by rw [upd_ne ne]; exact h1, fun t m => (h2 t m).mut (fun e => ?_) nt, h3⟩
  obtain ⟨us, z, _⟩ := h2 t m
  rw [e] at z
  exact nl _ z
theorem eqv_lp (a b : List Pr) : PyData.eqv (lp a) (lp b) = decide (a = b) := eqv_cells a b
theorem eqvAll_lp : ∀ (l m : List (List Pr)), PyData.eqvAll (l.map lp) (m.map lp) = decide (l = m)
  | [], [] => by simp [PyData.eqvAll]
  | [], y :: m => by simp [PyData.eqvAll]
  | x :: l, [] => by simp [PyData.eqvAll]
  | x :: l, y :: m => by
    show (PyData.eqv (lp x) (lp y) && PyData.eqvAll (l.map lp) (m.map lp)) = _
    rw [eqvAll_lp l m, eqv_lp]
    by_cases e : x = y <;> by_cases e2 : l = m <;> simp [e, e2]
theorem eqv_lps (l m : List (List Pr)) : PyData.eqv (.list (l.map lp)) (.list (m.map lp)) = decide (l = m) := eqvAll_lp l m
theorem canAll_lp : ∀ l : List (List Pr), PyData.canLayAll0 (l.map lp) = true
  | [] => by simp [PyData.canLayAll0]
  | x :: l => by
    rw [List.map_cons]
    simp [PyData.canLayAll0, PyData.canLay0, lp, canAll_pd, canAll_lp l]
theorem depAll_lp : ∀ l : List (List Pr), PyData.depthAll (l.map lp) ≤ 2
  | [] => by simp [PyData.depthAll]
  | x :: l => by
    rw [List.map_cons]
    have := depAll_lp l
    have := depAll_pd x
    simp only [PyData.depthAll, PyData.depth, lp]
    omega
theorem shaped_lp (l : List Pr) : SeqAt.shaped (lp l) = true := shaped_cells l
theorem shaped_lps (l : List (List Pr)) : SeqAt.shaped (.list (l.map lp)) = true := by
  unfold SeqAt.shaped
  have := depAll_lp l
  simp only [PyData.canLay0, PyData.depth, canAll_lp]
  simp
  omega
theorem any_lp (p : List Pr) : ∀ ps : List (List Pr), (ps.map lp).any (fun z => PyData.eqv z (lp p)) = decide (p ∈ ps)
  | [] => by simp
  | q :: ps => by
    rw [List.map_cons, List.any_cons, any_lp p ps, eqv_lp]
    by_cases e : q = p
    · subst e
      simp
    · have e2 : ¬ p = q := fun z => e z.symm
      simp [e, e2]
theorem dp_cellsL {K : PySem.W.Frag} {H : Hp} {a : Addr} {pss : List (List Pr)} (h : CellsL H a pss) : Dp K H (.ref a) (.list (pss.map lp)) := by
  obtain ⟨ts, hl, ht, rfl⟩ := h
  refine .lst (lst_of hl) ?_
  have go : ∀ us : List (Addr × List Pr), (∀ t ∈ us, Cells H t.1 t.2) → DpAll K H (us.map fun t => V.ref t.1) ((us.map (·.2)).map lp) := fun us => by
    induction us with
    | nil => exact fun _ => .nil
    | cons t us ih => exact fun h => .cons (dp_cells (h t List.mem_cons_self)) (ih fun u m => h u (List.mem_cons_of_mem _ m))
  exact go ts ht
theorem op_inL {X : Cx} (hu : X.A.units + 65 < cLine) : OpR X (compareOp .In) (fun x y H Q => ∃ (t a : Addr) (p : List Pr) (ps : List (List Pr)), x = .ref t ∧ y = .ref a ∧ Cells H t p ∧ CellsL H a ps ∧ Q (.bl (decide (p ∈ ps))) H) := by
  intro pins s σ H x y v u Q I rx ry h
  obtain ⟨t, a, p, ps, rfl, rfl, ht, hc, q⟩ := h
  refine op_inD hu pins s σ H _ _ v u Q I rx ry ⟨lp p, ps.map lp, dp_cells ht, dp_cellsL hc, shaped_lp p, shaped_lps ps, ?_⟩
  rw [any_lp]
  exact q
theorem mt_indexL {X : Cx} (hu : X.A.units + 65 < cLine) : MtR X "list.index" (fun x xs H Q => ∃ (a t : Addr) (p : List Pr) (ps : List (List Pr)), x = .ref a ∧ xs = [.ref t] ∧ Cells H t p ∧ CellsL H a ps ∧
    ∃ j, ps[j]? = some p ∧ (∀ m p', m < j → ps[m]? = some p' → p' ≠ p) ∧ Q (.int (j : Nat)) H) := by
  intro pins s σ H x xs v us Q I rx rxs h
  obtain ⟨a, t, p, ps, rfl, rfl, ht, hc, j, hj, hno, q⟩ := h
  refine mt_indexD hu pins s σ H _ _ v us Q I rx rxs ⟨a, .ref t, lp p, ps.map lp, j, lp p, rfl, rfl, dp_cellsL hc, dp_cells ht, shaped_lps ps, shaped_lp p, by rw [List.getElem?_map, hj]; rfl, by rw [eqv_lp]; exact decide_eq_true rfl, fun m z' hm hz => ?_, q⟩
  rw [List.getElem?_map] at hz
  obtain ⟨p', hp, rfl⟩ := Option.map_eq_some_iff.mp hz
  rw [eqv_lp]
  exact decide_eq_false (hno m p' hm hp)
theorem CellsL.add {H : Hp} {l t : Addr} {pss : List (List Pr)} {ps : List Pr} {vs : List V} (h : CellsL H l pss) (hv : H l = some (.lst vs)) (hc : Cells H t ps) (ne : t ≠ l) : CellsL (upd H l (.lst (vs ++ [.ref t]))) l (pss ++ [ps]) := by
  obtain ⟨ts, h1, h2, rfl⟩ := h
  have e : vs = ts.map fun t => V.ref t.1 := by
    rw [h1] at hv
    injection hv with hv
    injection hv with hv
    exact hv.symm
  subst e
  have nt : ∀ xs, H l ≠ some (.tup xs) := fun xs z => by
    rw [h1] at z
    cases z
  have nl : ∀ u ∈ ts, u.1 ≠ l := fun u m e => by
    obtain ⟨us, g1, g2, _⟩ := h2 u m
    rw [e, h1] at g1
    injection g1 with g1
    injection g1 with g1
    have mu : V.ref u.1 ∈ ts.map fun t => V.ref t.1 := List.mem_map.mpr ⟨u, m, rfl⟩
    rw [g1] at mu
    obtain ⟨y, my, ey⟩ := List.mem_map.mp mu
    have ey : y.1 = u.1 := V.ref.inj ey
    have z := g2 y my
    rw [ey, e, h1] at z
    cases z
  refine ⟨ts ++ [(t, ps)], by rw [upd_same, List.map_append]; rfl, fun u m => ?_, by rw [List.map_append]; rfl⟩
  rcases List.mem_append.mp m with m | m
  · exact (h2 u m).mut (nl u m) nt
  · rw [List.mem_singleton.mp m]
    exact hc.mut ne nt
theorem CellsL.one {H : Hp} {l t : Addr} {ps : List Pr} (h : H l = some (.lst [.ref t])) (hc : Cells H t ps) : CellsL H l [ps] := ⟨[(t, ps)], h, fun u m => by rw [List.mem_singleton.mp m]; exact hc, rfl⟩
/-- a statement with a word of one's own behind it -/
def tMid (t : TS) : TS := fun D σ H => ∃ P : L2.St → Hp → Prop, t { D with nx := P } σ H ∧ ∀ σ' H', P σ' H' → D.nx σ' H'
theorem ps_mid {X : Cx} {st : Stmt} {t : TS} (h : PS X st t) : PS X st (tMid t) := by
  refine ⟨fun pins s σ H D I hw => ?_⟩
  obtain ⟨P, h1, h2⟩ := hw
  refine thn (h.run pins s σ H _ I h1) fun f s1 q => ?_
  cases f with
  | next =>
    obtain ⟨σ', H', I2, q⟩ := q
    exact ⟨σ', H', I2, h2 _ _ q⟩
  | brk => exact q
  | cont => exact q
  | ret v => exact q
/-- an expression with a word of one's own behind it -/
def tMidE (t : TE) : TE := fun σ H Q => ∃ P : V → Hp → Prop, t σ H P ∧ ∀ v H', P v H' → Q v H'
theorem pe_mid {X : Cx} {e : Expr} {t : TE} (h : PE X e t) : PE X e (tMidE t) := by
  refine ⟨fun pins s σ H Q I hw => ?_⟩
  obtain ⟨P, h1, h2⟩ := hw
  exact thn (h.run pins s σ H _ I h1) fun v s1 ⟨x, H1, I2, r, q⟩ => ⟨x, H1, I2, r, h2 _ _ q⟩
end Vx
namespace Vx
open PySem PySem.Spec PyProof.Rows L2
/-! ### comprehensions with any number of loops: one loop -/
def turnF (p : Pos) (tg : Expr) (ifs : List Expr) (em : (Unit → Sem PySem.Fin) → Sem PySem.Fin) (c : Code) (it : Value) (env : Env) : Sem PySem.Fin := do
  standAt p
  let r ← pyNext it
  match r with
  | none => pure (Fin.done Flow.next)
  | some v => do
    letOwnedTupleGo tg it v
    assign tg env v
    let s ← forIn ifs true fun c r => if r = true then do
        let ok ← PySem.isTrue c env (eval c env)
        pure (ForInStep.yield ok)
      else pure (ForInStep.yield r)
    if s = true then em fun _ => again c else again c
def finP (R : Result → Shared → Prop) (c : Code) (I : Nat → Shared → Prop) (n : Nat) : PySem.Fin → Shared → Prop := fun fin s' => match fin with
  | Fin.done f => R (Except.ok f) s'
  | Fin.again c' => c' = c ∧ ∃ m, m < n ∧ I m s'
theorem loopG {prog : Program} {w : World} {A : Around} {R : Result → Shared → Prop} {s : Shared} {e : Expr} {d : Nat} {it acc : Value} {env : Env} {p : Pos} {tg : Expr} {ifs : List Expr} {em : (Unit → Sem PySem.Fin) → Sem PySem.Fin}
    (hq : (Code.compLoop e d it acc env).quiet = true) (hun : A.under (Code.compLoop e d it acc env) = A) (hden : (model prog w).den (Code.compLoop e d it acc env) = Sem.onRaise (compTurn e d it acc env) fun x => do
      noteFrame x env
      theTreesLotGoes x)
    (ht : compTurn e d it acc env = turnF p tg ifs em (Code.compLoop e d it acc env) it env) (I : Nat → Shared → Prop)
    (turn : ∀ n s, I n s → wpAny (model prog w) A (pyNext it) (fun r s1 => match r with
        | none => R (Except.ok Flow.next) s1
        | some v => wpAny (model prog w) A (letOwnedTupleGo tg it v) (fun _ s2 => wpAny (model prog w) A (assign tg env v) (fun _ s3 =>
            wpAny (model prog w) A (forIn ifs true fun c r => if r = true then do
                let ok ← PySem.isTrue c env (eval c env)
                pure (ForInStep.yield ok)
              else pure (ForInStep.yield r)) (fun ok s4 => if ok = true then wpAny (model prog w) A (em fun _ => again (Code.compLoop e d it acc env)) (finP R (Code.compLoop e d it acc env) I n) (notedBy (model prog w) A env fun e s' => R (Except.error e) s') s4 else ∃ m, m < n ∧ I m s4)
              (notedBy (model prog w) A env fun e s' => R (Except.error e) s') s3)
            (notedBy (model prog w) A env fun e s' => R (Except.error e) s') s2)
          (notedBy (model prog w) A env fun e s' => R (Except.error e) s') s1)
      (notedBy (model prog w) A env fun e s' => R (Except.error e) s') s) (n : Nat) (h : I n s) : codeAny (model prog w) A (Code.compLoop e d it acc env) R s := by
  refine codeAny_loop hq I (fun n s hI => ?_) n h
  rw [hun, hden]
  refine wpAny_noted ?_
  rw [ht]
  unfold turnF
  refine wpAny_bind (wpAny_standAt (wpAny_bind (wpAny_mono (turn n s hI) (fun r s1 h1 => ?_) fun _ _ z => z)))
  cases r with
  | none => exact wpAny_pure h1
  | some v =>
    refine wpAny_bind (wpAny_mono h1 (fun _ s2 h2 => ?_) fun _ _ z => z)
    refine wpAny_bind (wpAny_mono h2 (fun _ s3 h3 => ?_) fun _ _ z => z)
    refine wpAny_bind (wpAny_mono h3 (fun ok s4 h4 => ?_) fun _ _ z => z)
    cases ok with
    | true =>
      rw [if_pos rfl] at h4 ⊢
      exact h4
    | false =>
      rw [if_neg (by decide)] at h4 ⊢
      exact wpAny_pure ⟨rfl, h4⟩
theorem startG {prog : Program} {w : World} {A : Around} {R : Result → Shared → Prop} {s : Shared} {e : Expr} {d : Nat} {it acc : Value} {env : Env} {g : Comprehension}
    (hq : ∀ it', (Code.compLoop e d it' acc env).quiet = true) (hun : A.under (Code.compStart e d it acc env) = A) (hden : (model prog w).den (Code.compStart e d it acc env) = Sem.onRaise (compStart e d it acc env) fun x => do
      noteFrame x env
      standAt theWindowsPlace)
    (hg : (clausesOf e)[d]? = some g) (ha : g.is_async = 0)
    (h0 : codeAny (model prog w) A (Code.compLoop e d it acc env) R s)
    (h : wpAny (model prog w) A (pyIter it) (fun it' s' => codeAny (model prog w) A (Code.compLoop e d it' acc env) R s') (notedBy (model prog w) A env fun x s' => R (Except.error x) s') s) :
    codeAny (model prog w) A (Code.compStart e d it acc env) R s := by
  refine codeAny_of_tree ?_
  rw [hun, hden]
  refine wpAny_notedAt ?_
  unfold compStart
  rw [hg]
  have z : ((some g).elim false fun x : Comprehension => x.is_async != 0) = false := by
    show (g.is_async != 0) = false
    rw [ha]
    rfl
  rw [z, if_neg (by decide)]
  refine wpAny_bind (wpAny_askSetting (wpAny_ite ?_))
  by_cases c : ({ program := (model prog w).prog, params := (model prog w).w.params } : Setting).params.followText "comprehension-iter-twice" = true
  · rw [if_pos c]
    exact wpAny_pure ⟨hq it, h0⟩
  · rw [if_neg c]
    refine wpAny_bind (wpAny_rule (wpAny_bind (wpAny_standAt (wpAny_bind (wpAny_mono h (fun it' s' h' => wpAny_pure ⟨hq it', h'⟩) fun _ _ z => z)))))
theorem lvl {Y : Cx} {pins : List (Addr × Obj)} {tg : Expr} {g : TG} {ifs : List Expr} {tt : TT} {J : It} {fp : List Addr} {it : Addr} {tn : Nat → Heap → Prop} (hc : Y.calm = true) (xe0 : Y.xe = fun _ _ => False) (T : Turn Y.prog Y.w Y.K tg J fp it tn) (pg : PG Y tg g) (pt : PTs Y ifs tt)
    {e : Expr} {d : Nat} {acc : Value} {p : Pos} {em : (Unit → Sem PySem.Fin) → Sem PySem.Fin} {R : Result → Shared → Prop}
    (hq : (Code.compLoop e d (.ref it) acc Y.env).quiet = true) (hun : Y.A.under (Code.compLoop e d (.ref it) acc Y.env) = Y.A) (hden : (model Y.prog Y.w).den (Code.compLoop e d (.ref it) acc Y.env) = Sem.onRaise (compTurn e d (.ref it) acc Y.env) fun x => do
      noteFrame x Y.env
      theTreesLotGoes x)
    (ht : compTurn e d (.ref it) acc Y.env = turnF p tg ifs em (Code.compLoop e d (.ref it) acc Y.env) (.ref it) Y.env)
    {EM : L2.St → Hp → (Hp → Prop) → Prop} {vs : List Nat} {σ0 : L2.St}
    (hem : ∀ (pins : List (Addr × Obj)) (s : Shared) (σ : L2.St) (H : Hp) (Nx : Hp → Prop) (Post : PySem.Fin → Shared → Prop) (E : Value → Shared → Prop), L2.Inv Y pins σ H s → EM σ H Nx → (∀ s' H', L2.Inv Y pins (wipe σ vs) H' s' → Nx H' → Post (Fin.again (Code.compLoop e d (.ref it) acc Y.env)) s') →
      wpAny (model Y.prog Y.w) Y.A (em fun _ => again (Code.compLoop e d (.ref it) acc Y.env)) Post E s)
    {W : Nat → Nat → Hp → Prop} {Qe : Hp → Prop}
    (turn : ∀ i m H, W i m H → (J.stop i H ∧ Qe H) ∨ (J.go i H ∧ ∃ Nx : Hp → Prop, (∀ H', Nx H' → ∃ m', m' < m ∧ W (i + 1) m' H') ∧ ∀ x H', J.yld i H x H' → g x (wipe σ0 vs) H' fun σ2 H2 => wipe σ2 vs = wipe σ0 vs ∧ tt σ2 H2 fun b H3 => if b = true then EM σ2 H3 Nx else Nx H3))
    (hR : ∀ s1 H, L2.Inv Y pins (wipe σ0 vs) H s1 → Qe H → R (Except.ok Flow.next) s1)
    {s : Shared} {H : Hp} {m : Nat} (I : L2.Inv Y pins (wipe σ0 vs) H s) (t0 : tn 0 s.heap) (hfp : ∀ b ∈ fp, FpOk Y pins H b) (w0 : W 0 m H) :
    codeAny (model Y.prog Y.w) Y.A (Code.compLoop e d (.ref it) acc Y.env) R s := by
  refine loopG hq hun hden ht (fun n s => ∃ i H, L2.Inv Y pins (wipe σ0 vs) H s ∧ tn i s.heap ∧ (∀ b ∈ fp, H b = none) ∧ W i n H) ?_ m ⟨0, H, I, t0, fun b hb => (hfp b hb).1, w0⟩
  rintro n s ⟨i, H1, I1, t1, nn, w1⟩
  have fpo : ∀ {H' : Hp}, (∀ b ∈ fp, H' b = none) → ∀ b ∈ fp, FpOk Y pins H' b := fun z b hb => ⟨z b hb, (hfp b hb).2⟩
  have no : ∀ {E : Value → Shared → Prop} (a : Value) (s : Shared), (fun _ _ => False : Value → Shared → Prop) a s → E a s := fun _ _ z => z.elim
  rcases turn i n H1 w1 with ⟨st, qe⟩ | ⟨go, Nx, nx, y⟩
  · refine wpAny_mono (T.done Y rfl rfl rfl hc i pins s _ H1 (fun _ _ => False) I1 (fpo nn) t1 st) (fun r s1 h1 => ?_) no
    obtain ⟨rfl, I2⟩ := h1
    exact hR s1 H1 I2 qe
  · refine wpAny_mono (T.item Y rfl rfl rfl hc i pins s _ H1 (fun _ _ => False) I1 (fpo nn) t1 go) (fun r s1 h1 => ?_) no
    obtain ⟨u, rfl, h1⟩ := h1
    refine wpAny_mono h1 (fun _ s2 h2 => ?_) no
    obtain ⟨x, H2, I2, rx, yl, t2, nn2⟩ := h2
    have P2 := I2.pinned (fpo nn2) (T.obj _ _ t2)
    have r3 := pg.run _ s2 _ H2 x u _ P2 rx (y x H2 yl)
    rw [xe0] at r3
    refine wpAny_mono r3 (fun _ s3 h3 => ?_) no
    obtain ⟨σ3, H3, I3, ew, h3⟩ := h3
    have r4 := pt.run _ s3 σ3 H3 _ I3 h3
    rw [xe0] at r4
    refine wpAny_mono r4 (fun ok s4 h4 => ?_) no
    obtain ⟨H4, I4, h4⟩ := h4
    have back : ∀ {s' : Shared} {H' : Hp}, L2.Inv Y (pins ++ pinsAt fp s2.heap) (wipe σ3 vs) H' s' → Nx H' → ∃ m, m < n ∧ ∃ i H, L2.Inv Y pins (wipe σ0 vs) H s' ∧ tn i s'.heap ∧ (∀ b ∈ fp, H b = none) ∧ W i m H := fun {s' H'} I' nx' => by
      obtain ⟨m', lm, w'⟩ := nx H' nx'
      have pin : ∀ b ∈ fp, ∀ o, s2.heap.get? b = some o → s'.heap.get? b = some o ∧ H' b = none := fun b hb o ho => by
        have := I'.pin (b, o) (List.mem_append.mpr (.inr (List.mem_append.mpr (.inr (mem_pinsAt hb ho)))))
        exact ⟨this.1, this.2.1⟩
      refine ⟨m', lm, i + 1, H', ?_, T.keep _ _ _ t2 fun b hb o ho => (pin b hb o ho).1, fun b hb => ?_, w'⟩
      · rw [← ew]
        exact I'.unpinned
      · obtain ⟨o, ho, _⟩ := T.obj _ _ t2 b hb
        exact (pin b hb o ho).2
    cases ok with
    | true =>
      rw [if_pos rfl] at h4 ⊢
      exact hem _ s4 σ3 H4 Nx _ _ I4 h4 fun s' H' I' n' => ⟨rfl, back I' n'⟩
    | false =>
      rw [if_neg (by decide)] at h4 ⊢
      exact back (I4.weak (wipe_length ..) fun _ _ z => (wipe_some z).1) h4
/-! ### what stands within a loop -/
def emL0 (elt : Expr) (acc : Value) (env : Env) : Sem Unit := do
  let x ← eval elt env
  let _ ← call (Value.builtin "list.append") [acc, x]
  pure ()
def emL (elt : Expr) (acc : Value) (env : Env) (k : Unit → Sem PySem.Fin) : Sem PySem.Fin := emL0 elt acc env >>= k
def emI (e : Expr) (d : Nat) (i1 : Expr) (acc : Value) (env : Env) (k : Unit → Sem PySem.Fin) : Sem PySem.Fin := do
  let x ← eval i1 env
  standAt i1.pos
  let x ← foldedSetIterable i1 env x
  let it ← holding [x] (pyIter x)
  let _ ← runOwn (Code.compStart e d it acc env) env
  k ()
abbrev EMT := L2.St → Hp → (Hp → Prop) → Prop
def tEm (te : TE) (D : Addr) : EMT := fun σ H Nx => te σ H fun y H4 => ∃ acc, H4 D = some (.lst acc) ∧ acc.length < sizeLine ∧ Nx (upd H4 D (.lst (acc ++ [y])))
def tTurns (J : It) (g : TG) (tt : TT) (vs : List Nat) (EM : EMT) (σ : L2.St) (Qe : Hp → Prop) (W : Nat → Nat → Hp → Prop) : Prop :=
  ∀ i m H, W i m H → (J.stop i H ∧ Qe H) ∨ (J.go i H ∧ ∃ Nx : Hp → Prop, (∀ H', Nx H' → ∃ m', m' < m ∧ W (i + 1) m' H') ∧ ∀ x H', J.yld i H x H' → g x (wipe σ vs) H' fun σ2 H2 => wipe σ2 vs = wipe σ vs ∧ tt σ2 H2 fun b H3 => if b = true then EM σ2 H3 Nx else Nx H3)
def tIn (wi : TI) (g : TG) (tt : TT) (vs : List Nat) (EM : EMT) : EMT := fun σ H Nx => wi σ H fun J H4 => ∃ W, (∃ m, W 0 m H4) ∧ tTurns J g tt vs EM σ Nx W
/-- an inner part runs -/
def Runs (Y : Cx) (vs : List Nat) (EM : EMT) (em : (Unit → Sem PySem.Fin) → Sem PySem.Fin) : Prop :=
  ∀ (pins : List (Addr × Obj)) (s : Shared) (σ : L2.St) (H : Hp) (Nx : Hp → Prop) (c : Code) (Post : PySem.Fin → Shared → Prop) (E : Value → Shared → Prop), L2.Inv Y pins σ H s → EM σ H Nx → (∀ s' H', L2.Inv Y pins (wipe σ vs) H' s' → Nx H' → Post (Fin.again c) s') →
    wpAny (model Y.prog Y.w) Y.A (em fun _ => again c) Post E s
theorem wipe_weak {Y : Cx} {pins : List (Addr × Obj)} {σ : L2.St} {H : Hp} {s : Shared} {vs vs1 : List Nat} (h : L2.Inv Y pins (wipe σ vs1) H s) (sub : ∀ i ∈ vs1, i ∈ vs) : L2.Inv Y pins (wipe σ vs) H s :=
  h.weak (by rw [wipe_length, wipe_length]) fun i v z => by
    obtain ⟨a, b⟩ := wipe_some z
    rw [wipe_out fun m => b (sub i m)]
    exact a
theorem runs_app {Y : Cx} (xe0 : Y.xe = fun _ _ => False) {elt : Expr} {te : TE} {D : Addr} (vs : List Nat) (pe : PE Y elt te) : Runs Y vs (tEm te D) (emL elt (.ref D) Y.env) := by
  intro pins s σ H Nx c Post E I h k
  unfold emL emL0
  have r := pe.run pins s σ H _ I h
  rw [xe0] at r
  refine wpAny_bind (wpAny_bind (wpAny_mono r (fun v s1 h1 => ?_) fun _ _ z => z.elim))
  obtain ⟨y, H1, I1, ry, acc, hD, few, nx⟩ := h1
  refine wpAny_bind (app_ok I1 hD few ry fun s2 I2 => ?_)
  refine wpAny_pure (wpAny_pure (k s2 _ (I2.weak (wipe_length ..) fun _ _ z => (wipe_some z).1) nx))
theorem runs_in {Y : Cx} (hc : Y.calm = true) (xe0 : Y.xe = fun _ _ => False) {e : Expr} {d : Nat} {acc : Value} {tg i1 : Expr} {ifs : List Expr} {wi : TI} {g : TG} {tt : TT} {vs vs1 : List Nat} {EM : EMT} {p : Pos} {em : (Unit → Sem PySem.Fin) → Sem PySem.Fin} {gc : Comprehension}
    (sub : ∀ i ∈ vs1, i ∈ vs) (pi : PI Y tg i1 wi) (pg : PG Y tg g) (pt : PTs Y ifs tt) (hem : Runs Y vs1 EM em) (hs : ∀ x, foldedSetIterable i1 Y.env x = pure x)
    (hq : ∀ it, (Code.compLoop e d it acc Y.env).quiet = true) (hun : ∀ it, Y.A.under (Code.compLoop e d it acc Y.env) = Y.A) (hden : ∀ it, (model Y.prog Y.w).den (Code.compLoop e d it acc Y.env) = Sem.onRaise (compTurn e d it acc Y.env) fun x => do
      noteFrame x Y.env
      theTreesLotGoes x)
    (hunS : ∀ it, Y.A.under (Code.compStart e d it acc Y.env) = Y.A) (hdenS : ∀ it, (model Y.prog Y.w).den (Code.compStart e d it acc Y.env) = Sem.onRaise (compStart e d it acc Y.env) fun x => do
      noteFrame x Y.env
      standAt theWindowsPlace)
    (hg : (clausesOf e)[d]? = some gc) (ha : gc.is_async = 0)
    (ht : ∀ it, compTurn e d it acc Y.env = turnF p tg ifs em (Code.compLoop e d it acc Y.env) it Y.env) : Runs Y vs (tIn wi g tt vs1 EM) (emI e d i1 acc Y.env) := by
  intro pins s σ H Nx c Post E I h k
  unfold emI
  have r := pi.run pins s σ H _ I h
  rw [xe0] at r
  refine wpAny_bind (wpAny_mono r (fun v s1 h1 => ?_) fun _ _ z => z.elim)
  refine wpAny_bind (wpAny_standAt ?_)
  rw [hs]
  refine wpAny_bind (wpAny_pure (wpAny_bind (wpAny_holding (wpAny_mono h1 (fun itv s2 h2 => ?_) fun _ _ z => z.elim))))
  obtain ⟨it, fp, tn, J, H2, rfl, I2, T, t0, hfp, W, ⟨m0, w0⟩, turns⟩ := h2
  refine wpAny_bind (wpAny_runOwn ?_)
  have loop := lvl (R := fun r s' => match r with | Except.ok f => wpAny (model Y.prog Y.w) Y.A (again c) Post E s' | Except.error e => False) hc xe0 T pg pt (hq _) (hun _) (hden _) (ht _) (EM := EM) (vs := vs1) (σ0 := σ) (fun pins s σ H Nx Post E I h k => hem pins s σ H Nx _ Post E I h k) turns
    (fun s1 H1 I1 q1 => wpAny_pure (k s1 H1 (wipe_weak I1 sub) q1)) (I2.weak (wipe_length ..) fun _ _ z => (wipe_some z).1) t0 hfp w0
  show codeAny _ Y.A _ _ _
  refine codeAny_mono (startG hq (hunS _) (hdenS _) hg ha loop (T.self Y.A 0 s2 _ _ t0 loop)) fun r s3 h3 => ?_
  cases r with
  | ok f => exact h3
  | error e => exact h3.elim
def tLcG (wi : TI) (g : TG) (tt : TT) (EM : Addr → EMT) (vs : List Nat) : TE := fun σ H Q => wi σ H fun J H1 => ∀ D : Addr, H1 D = none → ∃ W, (∃ m, W 0 m (upd H1 D (.lst []))) ∧ tTurns J g tt vs (EM D) σ (fun H => Q (.ref D) H) W
theorem pe_lcG {X : Cx} {elt tg iter : Expr} {ifs : List Expr} {rest : List Comprehension} {scope : Scope} {own : List (Str × Nat)} {pos p : Pos} {wi : TI} {g : TG} {tt : TT} {EM : Addr → EMT} {em : Value → Env → (Unit → Sem PySem.Fin) → Sem PySem.Fin}
    (hc : X.calm = true) (hN : X.N.Nodup) (hi : PI X tg iter wi) (ok : BlkOk X.N X.env.scope scope own)
    (hg : ∀ (s : Shared) (H : Hp) (C : Addr) (cl : List (Str × Addr)) (fp : List Addr), PG (X.blk s H scope (compEnvC scope cl C X.env) fp) tg g)
    (ht : ∀ (s : Shared) (H : Hp) (C : Addr) (cl : List (Str × Addr)) (fp : List Addr), PTs (X.blk s H scope (compEnvC scope cl C X.env) fp) ifs tt)
    (hem : ∀ (s : Shared) (H : Hp) (C : Addr) (cl : List (Str × Addr)) (fp : List Addr) (D : Addr), Runs (X.blk s H scope (compEnvC scope cl C X.env) fp) (own.map (·.2)) (EM D) (em (.ref D) (compEnvC scope cl C X.env)))
    (turn : ∀ it acc env, compTurn (.ListComp elt (⟨tg, iter, ifs, 0⟩ :: rest) scope pos) 0 it acc env = turnF p tg ifs (em acc env) (Code.compLoop (.ListComp elt (⟨tg, iter, ifs, 0⟩ :: rest) scope pos) 0 it acc env) it env)
    (hs : ∀ x, foldedSetIterable iter X.env x = pure x) : PE X (.ListComp elt (⟨tg, iter, ifs, 0⟩ :: rest) scope pos) (tLcG wi g tt EM (own.map (·.2))) := by
  refine ⟨fun pins s σ H Q I h => ?_⟩
  rw [eval_ListComp]
  have hfree : ∀ y ∈ scope.names, y.2 = NameKind.free → ∃ c, List.lookup y.1 X.env.cells = some c := fun y hy e => (ok.free y hy e).elim (fun k => I.ok.has y.1 (.inl k)) fun k => I.ok.has y.1 (.inr k)
  refine wpAny_comprehension_free rfl hs (closure_ok hfree) ok.kind (fun y hy e => by rw [ok.uniq y hy, e]) ?_
  refine wpAny_mono (hi.run pins s σ H _ I h) (fun xv s1 hx => ?_) fun _ _ z => z
  refine wpAny_mono hx (fun itv s2 h2 => ?_) fun _ _ z => z
  obtain ⟨it, fp, tn, J, H2, rfl, I2, T, t2, f2, q⟩ := h2
  refine wpAny_newObj_type (newEnv_comp ?_)
  have hDn : H2 s2.heap.objs.size = none := I2.hok.fresh (Nat.le_refl _)
  obtain ⟨W, ⟨m0, w0⟩, turns⟩ := q _ hDn
  have I3 : L2.Inv X pins σ (upd H2 s2.heap.objs.size (.lst [])) { s2 with heap := s2.heap.push { cls := .type "list", data := .seq #[] } } :=
    I2.laid (fun b o e => Heap.get?_push_of_some _ e) (Nat.le_refl _) ⟨Nat.zero_le _, [], 0, .nil, Heap.get?_push_size _ rfl⟩
  generalize es3 : ({ s2 with heap := s2.heap.push { cls := .type "list", data := .seq #[] } } : Shared) = s3 at I3 ⊢
  have h3 : s3.heap = s2.heap.push { cls := .type "list", data := .seq #[] } := by rw [← es3]
  have f3 : ∀ b ∈ fp, FpOk X pins (upd H2 s2.heap.objs.size (.lst [])) b ∧ b < s3.heap.objs.size := fun b hb => by
    obtain ⟨o, ho, _⟩ := T.obj 0 _ t2 b hb
    have lt := Heap.lt_size ho
    refine ⟨⟨?_, (f2 b hb).2⟩, ?_⟩
    · rw [upd_ne (Nat.ne_of_lt lt)]
      exact (f2 b hb).1
    · rw [h3, Heap.size_push]
      exact Nat.lt_succ_of_lt lt
  have st3 : tn 0 s3.heap := T.keep 0 _ _ t2 fun b _ o e => by
    rw [h3]
    exact Heap.get?_push_of_some _ e
  have I4 := block_start I3 ok hN f3
  have st4 := T.keep 0 _ (pushCells (s3.heap.push { cls := .type "dict", data := .dict #[] }) scope.names) st3 fun b _ o e => pushCells_keeps scope.names _ b o (Heap.get?_push_of_some _ e)
  clear es3
  generalize s2.heap.objs.size = D at *
  show codeAny (model X.prog X.w) X.A (Code.compStart _ 0 (.ref it) (.ref D) (compEnvC scope (cellsFrom (s3.heap.objs.size + 1) scope.names (cloFrom X.env.cells scope.names [])) s3.heap.objs.size X.env)) _ _
  have loop := lvl (Y := X.blk s3 (upd H2 D (.lst [])) scope (compEnvC scope (cellsFrom (s3.heap.objs.size + 1) scope.names (cloFrom X.env.cells scope.names [])) s3.heap.objs.size X.env) fp) (R := compPost (model X.prog X.w) X.A X.xe none (EP X pins σ Q) (.ref D) s3.heap.objs.size) (e := .ListComp elt (⟨tg, iter, ifs, 0⟩ :: rest) scope pos) (d := 0) (acc := .ref D) hc rfl T (hg _ _ _ _ _) (ht _ _ _ _ _) rfl rfl rfl (turn _ _ _) (EM := EM D) (vs := List.map (fun x : Str × Nat => x.2) own) (σ0 := σ) (W := W) (Qe := fun H => Q (.ref D) H)
    (fun pins s σ H Nx Post E I h k => hem _ _ _ _ _ D pins s σ H Nx _ Post E I h k) turns (fun s6 H5 I6 q6 => ?_) I4 st4 (fun b hb => ⟨(f3 b hb).1.1, (I4.ok.exf b hb).1, I4.ok.exfs b hb, .inl hb, (I4.ok.exf b hb).2, fun p hp => by cases hp⟩) w0
  · exact codeAny_compStart_list loop (T.self X.A 0 _ _ _ st4 loop)
  · have I7 := Inv.call' I3 I6.os I6.base I6.hok I6.bare fun b hb => ⟨(f3 b hb).1.2.2.2.1, (f3 b hb).1.2.1, (f3 b hb).1.2.2.2.2.1, (f3 b hb).1.2.2.2.2.2⟩
    obtain ⟨m, hn, _⟩ := I6.loc
    obtain ⟨a0, a1, a2, a3, a4, a5⟩ := Inv.fpOk I3 (Nat.le_refl _) I6.free
    exact ⟨m, hn, fun h' sb => ⟨.ref D, H5, Inv.turned I7 (fun b o hb e => (sb.2 b hb).trans e) a0 a1 a3 a4 a5, rfl, q6⟩⟩
/-- [e for a in xs for b in ys for c in zs] -/
theorem pe_lc3 {X : Cx} {elt tg iter tg1 iter1 tg2 iter2 : Expr} {ifs ifs1 ifs2 : List Expr} {scope : Scope} {own : List (Str × Nat)} {vs1 vs2 : List Nat} {pos : Pos} {wi wi1 wi2 : TI} {g g1 g2 : TG} {tt tt1 tt2 : TT} {te : TE}
    (hc : X.calm = true) (hN : X.N.Nodup) (hi : PI X tg iter wi) (ok : BlkOk X.N X.env.scope scope own) (hv1 : ∀ i ∈ vs1, i ∈ List.map (fun x : Str × Nat => x.2) own) (hv2 : ∀ i ∈ vs2, i ∈ vs1)
    (hg : ∀ (s : Shared) (H : Hp) (C : Addr) (cl : List (Str × Addr)) (fp : List Addr), PG (X.blk s H scope (compEnvC scope cl C X.env) fp) tg g)
    (ht : ∀ (s : Shared) (H : Hp) (C : Addr) (cl : List (Str × Addr)) (fp : List Addr), PTs (X.blk s H scope (compEnvC scope cl C X.env) fp) ifs tt)
    (hi1 : ∀ (s : Shared) (H : Hp) (C : Addr) (cl : List (Str × Addr)) (fp : List Addr), PI (X.blk s H scope (compEnvC scope cl C X.env) fp) tg1 iter1 wi1)
    (hg1 : ∀ (s : Shared) (H : Hp) (C : Addr) (cl : List (Str × Addr)) (fp : List Addr), PG (X.blk s H scope (compEnvC scope cl C X.env) fp) tg1 g1)
    (ht1 : ∀ (s : Shared) (H : Hp) (C : Addr) (cl : List (Str × Addr)) (fp : List Addr), PTs (X.blk s H scope (compEnvC scope cl C X.env) fp) ifs1 tt1)
    (hi2 : ∀ (s : Shared) (H : Hp) (C : Addr) (cl : List (Str × Addr)) (fp : List Addr), PI (X.blk s H scope (compEnvC scope cl C X.env) fp) tg2 iter2 wi2)
    (hg2 : ∀ (s : Shared) (H : Hp) (C : Addr) (cl : List (Str × Addr)) (fp : List Addr), PG (X.blk s H scope (compEnvC scope cl C X.env) fp) tg2 g2)
    (ht2 : ∀ (s : Shared) (H : Hp) (C : Addr) (cl : List (Str × Addr)) (fp : List Addr), PTs (X.blk s H scope (compEnvC scope cl C X.env) fp) ifs2 tt2)
    (he : ∀ (s : Shared) (H : Hp) (C : Addr) (cl : List (Str × Addr)) (fp : List Addr), PE (X.blk s H scope (compEnvC scope cl C X.env) fp) elt te)
    (hs : ∀ x, foldedSetIterable iter X.env x = pure x := by intro _; rfl) (hs1 : ∀ env x, foldedSetIterable iter1 env x = pure x := by intro _ _; rfl) (hs2 : ∀ env x, foldedSetIterable iter2 env x = pure x := by intro _ _; rfl) :
    PE X (.ListComp elt [⟨tg, iter, ifs, 0⟩, ⟨tg1, iter1, ifs1, 0⟩, ⟨tg2, iter2, ifs2, 0⟩] scope pos) (tLcG wi g tt (fun D => tIn wi1 g1 tt1 vs1 (tIn wi2 g2 tt2 vs2 (tEm te D))) (own.map (·.2))) := by
  refine pe_lcG (em := fun acc env => emI (.ListComp elt [⟨tg, iter, ifs, 0⟩, ⟨tg1, iter1, ifs1, 0⟩, ⟨tg2, iter2, ifs2, 0⟩] scope pos) 1 iter1 acc env) hc hN hi ok hg ht (fun s H C cl fp D => ?_) (fun _ _ _ => rfl) hs
  refine runs_in (Y := X.blk s H scope (compEnvC scope cl C X.env) fp) (gc := ⟨tg1, iter1, ifs1, 0⟩) hc rfl hv1 (hi1 s H C cl fp) (hg1 s H C cl fp) (ht1 s H C cl fp) (em := fun k => emI (.ListComp elt [⟨tg, iter, ifs, 0⟩, ⟨tg1, iter1, ifs1, 0⟩, ⟨tg2, iter2, ifs2, 0⟩] scope pos) 2 iter2 (.ref D) (compEnvC scope cl C X.env) k) ?_ (hs1 _) (fun _ => rfl) (fun _ => rfl) (fun _ => rfl) (fun _ => rfl) (fun _ => rfl) rfl rfl (fun _ => rfl)
  refine runs_in (Y := X.blk s H scope (compEnvC scope cl C X.env) fp) (gc := ⟨tg2, iter2, ifs2, 0⟩) hc rfl hv2 (hi2 s H C cl fp) (hg2 s H C cl fp) (ht2 s H C cl fp) (em := fun k => emL elt (.ref D) (compEnvC scope cl C X.env) k) ?_ (hs2 _) (fun _ => rfl) (fun _ => rfl) (fun _ => rfl) (fun _ => rfl) (fun _ => rfl) rfl rfl (fun _ => rfl)
  exact runs_app rfl vs2 (he s H C cl fp)
/-- [e for a in xs for b in ys] -/
theorem pe_lcD {X : Cx} {elt tg iter tg1 iter1 : Expr} {ifs ifs1 : List Expr} {scope : Scope} {own : List (Str × Nat)} {vs1 : List Nat} {pos : Pos} {wi wi1 : TI} {g g1 : TG} {tt tt1 : TT} {te : TE}
    (hc : X.calm = true) (hN : X.N.Nodup) (hi : PI X tg iter wi) (ok : BlkOk X.N X.env.scope scope own) (hv1 : ∀ i ∈ vs1, i ∈ List.map (fun x : Str × Nat => x.2) own)
    (hg : ∀ (s : Shared) (H : Hp) (C : Addr) (cl : List (Str × Addr)) (fp : List Addr), PG (X.blk s H scope (compEnvC scope cl C X.env) fp) tg g)
    (ht : ∀ (s : Shared) (H : Hp) (C : Addr) (cl : List (Str × Addr)) (fp : List Addr), PTs (X.blk s H scope (compEnvC scope cl C X.env) fp) ifs tt)
    (hi1 : ∀ (s : Shared) (H : Hp) (C : Addr) (cl : List (Str × Addr)) (fp : List Addr), PI (X.blk s H scope (compEnvC scope cl C X.env) fp) tg1 iter1 wi1)
    (hg1 : ∀ (s : Shared) (H : Hp) (C : Addr) (cl : List (Str × Addr)) (fp : List Addr), PG (X.blk s H scope (compEnvC scope cl C X.env) fp) tg1 g1)
    (ht1 : ∀ (s : Shared) (H : Hp) (C : Addr) (cl : List (Str × Addr)) (fp : List Addr), PTs (X.blk s H scope (compEnvC scope cl C X.env) fp) ifs1 tt1)
    (he : ∀ (s : Shared) (H : Hp) (C : Addr) (cl : List (Str × Addr)) (fp : List Addr), PE (X.blk s H scope (compEnvC scope cl C X.env) fp) elt te)
    (hs : ∀ x, foldedSetIterable iter X.env x = pure x := by intro _; rfl) (hs1 : ∀ env x, foldedSetIterable iter1 env x = pure x := by intro _ _; rfl) :
    PE X (.ListComp elt [⟨tg, iter, ifs, 0⟩, ⟨tg1, iter1, ifs1, 0⟩] scope pos) (tLcG wi g tt (fun D => tIn wi1 g1 tt1 vs1 (tEm te D)) (own.map (·.2))) := by
  refine pe_lcG (em := fun acc env => emI (.ListComp elt [⟨tg, iter, ifs, 0⟩, ⟨tg1, iter1, ifs1, 0⟩] scope pos) 1 iter1 acc env) hc hN hi ok hg ht (fun s H C cl fp D => ?_) (fun _ _ _ => rfl) hs
  refine runs_in (Y := X.blk s H scope (compEnvC scope cl C X.env) fp) (gc := ⟨tg1, iter1, ifs1, 0⟩) hc rfl hv1 (hi1 s H C cl fp) (hg1 s H C cl fp) (ht1 s H C cl fp) (em := fun k => emL elt (.ref D) (compEnvC scope cl C X.env) k) ?_ (hs1 _) (fun _ => rfl) (fun _ => rfl) (fun _ => rfl) (fun _ => rfl) (fun _ => rfl) rfl rfl (fun _ => rfl)
  exact runs_app rfl vs1 (he s H C cl fp)
theorem pi_tupK {X : Cx} {tg l : Expr} {tl : TE} {K : PySem.W.Frag} (hk : X.K = K) (h : PE X l tl) : PI X tg l (iTup K tl) := by
  subst hk
  exact pi_tup h
/-! ### readings -/
theorem turns_range {lo : Int} {n : Nat} {g : TG} {tt : TT} {vs : List Nat} {EM : EMT} {σ : L2.St} {H0 : Hp} {Qe : Hp → Prop} (Z : Nat → Hp → Prop) (z0 : Z 0 H0)
    (step : ∀ (i : Nat) (H : Hp), i < n → Z i H → g (.int (lo + (i : Int))) (wipe σ vs) H fun σ2 H2 => wipe σ2 vs = wipe σ vs ∧ tt σ2 H2 fun b H3 => if b = true then EM σ2 H3 (Z (i + 1)) else Z (i + 1) H3)
    (done : ∀ H, Z n H → Qe H) : ∃ W, (∃ m, W 0 m H0) ∧ tTurns (Itr lo n) g tt vs EM σ Qe W := by
  refine ⟨fun i m H => i ≤ n ∧ m = n - i ∧ Z i H, ⟨n, Nat.zero_le _, rfl, z0⟩, ?_⟩
  rintro i m H ⟨le, rfl, z⟩
  by_cases e : i = n
  · exact .inl ⟨Nat.le_of_eq e.symm, done H (e ▸ z)⟩
  · have lt : i < n := by omega
    refine .inr ⟨lt, Z (i + 1), fun H' z' => ⟨n - (i + 1), by omega, by omega, rfl, z'⟩, ?_⟩
    rintro x H' ⟨rfl, rfl⟩
    exact step i H' lt z
theorem turns_list {K : PySem.W.Frag} {a : Addr} {xs : List V} {g : TG} {tt : TT} {vs : List Nat} {EM : EMT} {σ : L2.St} {H0 : Hp} {Qe : Hp → Prop} (Z : Nat → Hp → Prop) (z0 : Z 0 H0) (keep : ∀ (i : Nat) (H : Hp), i ≤ xs.length → Z i H → SqL K H a xs)
    (step : ∀ (i : Nat) (x : V) (H : Hp), xs[i]? = some x → Z i H → g x (wipe σ vs) H fun σ2 H2 => wipe σ2 vs = wipe σ vs ∧ tt σ2 H2 fun b H3 => if b = true then EM σ2 H3 (Z (i + 1)) else Z (i + 1) H3)
    (done : ∀ H, Z xs.length H → Qe H) : ∃ W, (∃ m, W 0 m H0) ∧ tTurns (Itl K a) g tt vs EM σ Qe W := by
  refine ⟨fun i m H => i ≤ xs.length ∧ m = xs.length - i ∧ Z i H, ⟨_, Nat.zero_le _, rfl, z0⟩, ?_⟩
  rintro i m H ⟨le, rfl, z⟩
  by_cases e : i = xs.length
  · exact .inl ⟨⟨xs, keep i H le z, Nat.le_of_eq e.symm⟩, done H (e ▸ z)⟩
  · have lt : i < xs.length := by omega
    refine .inr ⟨⟨xs, xs[i], keep i H le z, List.getElem?_eq_getElem lt⟩, Z (i + 1), fun H' z' => ⟨xs.length - (i + 1), by omega, by omega, rfl, z'⟩, ?_⟩
    rintro x H' ⟨rfl, hx⟩
    exact step i x H' (hx xs (keep i H' le z)) z
theorem turns_tup {K : PySem.W.Frag} {a : Addr} {xs : List V} {g : TG} {tt : TT} {vs : List Nat} {EM : EMT} {σ : L2.St} {H0 : Hp} {Qe : Hp → Prop} (Z : Nat → Hp → Prop) (z0 : Z 0 H0) (keep : ∀ (i : Nat) (H : Hp), i ≤ xs.length → Z i H → SqT K H a xs)
    (step : ∀ (i : Nat) (x : V) (H : Hp), xs[i]? = some x → Z i H → g x (wipe σ vs) H fun σ2 H2 => wipe σ2 vs = wipe σ vs ∧ tt σ2 H2 fun b H3 => if b = true then EM σ2 H3 (Z (i + 1)) else Z (i + 1) H3)
    (done : ∀ H, Z xs.length H → Qe H) : ∃ W, (∃ m, W 0 m H0) ∧ tTurns (Itt K a) g tt vs EM σ Qe W := by
  refine ⟨fun i m H => i ≤ xs.length ∧ m = xs.length - i ∧ Z i H, ⟨_, Nat.zero_le _, rfl, z0⟩, ?_⟩
  rintro i m H ⟨le, rfl, z⟩
  by_cases e : i = xs.length
  · exact .inl ⟨⟨xs, keep i H le z, Nat.le_of_eq e.symm⟩, done H (e ▸ z)⟩
  · have lt : i < xs.length := by omega
    refine .inr ⟨⟨xs, xs[i], keep i H le z, List.getElem?_eq_getElem lt⟩, Z (i + 1), fun H' z' => ⟨xs.length - (i + 1), by omega, by omega, rfl, z'⟩, ?_⟩
    rintro x H' ⟨rfl, hx⟩
    exact step i x H' (hx xs (keep i H' le z)) z
end Vx
namespace Vx
open PySem PySem.Spec PyProof.Rows L2
/-! ### the values of a dict whose keys are tuples -/
def ItvT (d : Addr) (o : Obj) (kvs : List (List L2.Key × V)) : It where
  go i H := H d = some (.frz o (.dT kvs)) ∧ i < kvs.length
  yld i H x H' := H' = H ∧ ∃ k, kvs[i]? = some (k, x)
  stop i H := H d = some (.frz o (.dT kvs)) ∧ kvs.length ≤ i
section
variable {P : Program} {w : World} {K : PySem.W.Frag} {d : Addr} {o : Obj} {es : Array DictEntry} {ep : Nat} {tg : Expr}
theorem turn_valsT {kvs : List (List L2.Key × V)} (it : Addr) (hod : o.data = .dict es ep) : Turn P w K tg (ItvT d o kvs) [it] it (fun i h => h.IsValIter it d i kvs.length ep) where
  mem := List.mem_singleton.mpr rfl
  obj := fun i h st b hb => by
    obtain ⟨oi, e, _, dd⟩ := st
    rw [List.mem_singleton.mp hb]
    exact ⟨oi, e, fun v z => by rw [dd] at z; cases z⟩
  keep := fun i h h' st k => by
    obtain ⟨oi, e, r⟩ := st
    exact ⟨oi, k it (List.mem_singleton.mpr rfl) _ e, r⟩
  item := by
    intro X hP hw hK hc i pins s σ H E I hf st hg
    subst hP hw hK
    obtain ⟨hd, hi⟩ := hg
    obtain ⟨f0, f1, f2, f3, f4, f5⟩ := hf it (List.mem_singleton.mpr rfl)
    obtain ⟨hs, hgd, hx, es', ep', hdt, hsz, ent⟩ := frzT2 I hd
    obtain ⟨rfl, rfl⟩ := dict_ep hod hdt
    obtain ⟨⟨k, v⟩, hkv⟩ : ∃ p, kvs[i]? = some p := ⟨kvs[i], List.getElem?_eq_getElem hi⟩
    obtain ⟨en, q, hen, hkey, hq, rv⟩ := ent i k v hkv
    have hi' : i < es'.size := by
      rw [hsz]
      exact hi
    have een : es'[i] = en := by
      rw [Array.getElem?_eq_getElem hi'] at hen
      exact Option.some.inj hen
    rw [← hsz] at st
    refine PySem.wpAny_pyNext_values_item_raw st ⟨o, hgd, hx, hdt⟩ hi' fun h' st' sb => ?_
    rw [een]
    have I1 : Inv X pins σ H { s with heap := h' } := I.turned (t' := s.toks) (fun b ob hb e => (sb.2 b hb).trans e) f0 f1 f3 f4 f5
    obtain ⟨oi, e, c, dd⟩ := id st'
    refine ⟨en.val, rfl, go_of (s := { s with heap := h' }) e c dd (by decide) ⟨v, H, I1, rv, ⟨rfl, k, hkv⟩, ?_, fun b hb => (hf b hb).1⟩⟩
    show h'.IsValIter it d (i + 1) kvs.length _
    rw [← hsz]
    exact st'
  done := by
    intro X hP hw hK hc i pins s σ H E I hf st hg
    subst hP hw hK
    obtain ⟨hd, hi⟩ := hg
    obtain ⟨f0, f1, f2, f3, f4, f5⟩ := hf it (List.mem_singleton.mpr rfl)
    obtain ⟨hs, hgd, hx, es', ep', hdt, hsz, ent⟩ := frzT2 I hd
    obtain ⟨rfl, rfl⟩ := dict_ep hod hdt
    rw [← hsz] at st
    exact PySem.wpAny_pyNext_values_end_raw (I.ok.hd hc) st ⟨o, hgd, hx, hdt⟩ (by omega) fun h' eb => ⟨rfl, I.turned (t' := s.toks) (fun b ob hb e => eb b ob hb e) f0 f1 f3 f4 f5⟩
  self := fun A i s Q E st h => wpAny_pyIter_valiter st h
end
def iValsT (td : TE) : TI := fun σ H R => td σ H fun x H1 => ∃ d o kvs, x = .ref d ∧ H1 d = some (.frz o (.dT kvs)) ∧ R (ItvT d o kvs) H1
theorem pi_valuesT {X : Cx} {tg e : Expr} {td : TE} {apos cpos : Pos} (he : PE X e td) (hbase : attributeBase e "values" X.env (eval e X.env) = eval e X.env := by rfl) (hline : (apos.endLine == cpos.line) = true := by rfl) :
    PI X tg (.Call (.Attribute e "values" apos) [] [] cpos) (iValsT td) := by
  refine ⟨fun pins s σ H R I h => ?_⟩
  refine wpAny_Call_method (T := "dict") (id := "dict.values") hbase rfl hline F.plainAttrs_dict F.slot_dict_values F.type_dict_values (thn (he.run pins s σ H _ I h) fun u s1 ⟨x, H1, I1, rx, d, o, kvs, ex, hd, q⟩ => ?_)
  subst ex
  obtain rfl : u = Value.ref d := rx
  obtain ⟨hs, hgd, hx, es, ep, hdt, hsz, ent⟩ := frzT2 I1 hd
  have raw : DT.Raw s1.heap d es ep := ⟨o, hgd, hx, hdt⟩
  have raw2 : s1.heap.DictRaw d es ep := ⟨o, hgd, hx, hdt⟩
  refine ⟨raw.typeIs, (fun a ea => by cases ea; exact ⟨o, hgd, hx.2.1⟩), ?_⟩
  have I2 : Inv X pins σ H1 { s1 with heap := s1.heap.push { cls := .type "dict_values", data := .fields #[.ref d] } } := I1.kept (t' := s1.toks) fun b ob q => Heap.get?_push_of_some _ q
  have fin : wpAny (model X.prog X.w) X.A (pyIter (.ref s1.heap.objs.size)) (PIE X pins σ tg R) X.xe { s1 with heap := s1.heap.push { cls := .type "dict_values", data := .fields #[.ref d] } } := by
    refine PySem.wpAny_pyIter_values_raw (d := d) (es := es) (ep := ep) ⟨_, Heap.get?_push_size _ rfl, rfl, rfl⟩ ⟨o, Heap.get?_push_of_some _ hgd, hx, hdt⟩ (pi_one (tk := s1.toks) I2 _ (turn_valsT _ hdt) ⟨_, Heap.get?_push_size _ rfl, rfl, ?_⟩ q)
    rw [hsz] <;> rfl
  show wpAny _ _ (callWith cpos (.builtin "dict.values") [.ref d] [] []) _ X.xe s1
  exact method_meetsIn F.slot_dict_values F.entry_dict_values rfl (PySem.evalArgs_none ⟨rfl, raw.typeIs, F.args_dict_values_1 _, _, PySem.meets_dict_values_raw d hs, ⟨⟨es, ep, raw2⟩, fin⟩⟩)
theorem walk_valuesT {d : Addr} {o : Obj} {kvs : List (List L2.Key × V)} : Walk (ItvT d o kvs) kvs.length (fun H => H d = some (.frz o (.dT kvs))) (fun i H x H' => H' = H ∧ ∃ k, kvs[i]? = some (k, x)) :=
  ⟨fun _ _ hi q => ⟨q, hi⟩, fun _ q => ⟨q, Nat.le_refl _⟩, fun _ _ _ _ _ _ y => y⟩
/-! ### a field, and a join, within a comprehension -/
theorem pe_fldK {X : Cx} {K : PySem.W.Frag} {e : Expr} {f : Str} {pos : Pos} {ta : TE} (hk : X.K = K) (he : PE X e ta) (hb : attributeBase e f X.env (eval e X.env) = eval e X.env) : PE X (.Attribute e f pos) (tFld K ta f) := by
  subst hk
  exact pe_fld he hb
def tJoinK (K : PySem.W.Frag) (to te : TE) : TE := tM1 (fun x xs H Q => ∃ a p, ∃ ys : List Str, x = .str a ∧ xs = [.ref p] ∧ (SqL K H p (ys.map V.str) ∨ SqT K H p (ys.map V.str)) ∧
      (ys.map (·.length)).sum + ys.length * a.length ≤ 16777216 ∧ Q (.str (Txt.join a ys)) H) to te
theorem pe_joinK {X : Cx} {K : PySem.W.Frag} {o e : Expr} {to te : TE} {apos pos : Pos} (hk : X.K = K) (ho : PE X o to) (he : PE X e te) (hs : starEach [e] X.env = [(false, eval e X.env)] := by rfl) (hbase : attributeBase o "join" X.env (eval o X.env) = eval o X.env := by rfl) (hline : (apos.endLine == pos.line) = true := by rfl) :
    PE X (.Call (.Attribute o "join" apos) [e] [] pos) (tJoinK K to te) := by
  subst hk
  exact pe_join ho he hs hbase hline
/-! ### a loop of a comprehension with two loops, over a range -/
theorem lc2_range {lo : Int} {n : Nat} {g : TG} {tt : TT} {vs : List Nat} {EM : L2.St → Hp → (Hp → Prop) → Prop} {σ : L2.St} {H0 : Hp} {Qe : Hp → Prop} (Z : Nat → Hp → Prop) (z0 : Z 0 H0)
    (step : ∀ (i : Nat) (H : Hp), i < n → Z i H → g (.int (lo + (i : Int))) (wipe σ vs) H fun σ2 H2 => wipe σ2 vs = wipe σ vs ∧ tt σ2 H2 fun b H3 => if b = true then EM σ2 H3 (Z (i + 1)) else Z (i + 1) H3)
    (done : ∀ H, Z n H → Qe H) : ∃ W : Nat → Nat → Hp → Prop, (∃ m, W 0 m H0) ∧ ∀ i m H, W i m H →
      ((Itr lo n).stop i H ∧ Qe H) ∨ ((Itr lo n).go i H ∧ ∃ Nx : Hp → Prop, (∀ H', Nx H' → ∃ m', m' < m ∧ W (i + 1) m' H') ∧ ∀ x H', (Itr lo n).yld i H x H' → g x (wipe σ vs) H' fun σ2 H2 => wipe σ2 vs = wipe σ vs ∧ tt σ2 H2 fun b H3 =>
        if b = true then EM σ2 H3 Nx else Nx H3) := turns_range Z z0 step done
end Vx
namespace Vx
open PySem PySem.Spec PyProof.Rows L2
/-! ### the least one of some lists of pairs -/
def ltL (a b : List Pr) : Bool := W.dataLt (lp a) (lp b)
theorem toksAll_inj : ∀ (a b : List Pr), W.keyToksAll (a.map pd) = W.keyToksAll (b.map pd) → a = b
  | [], [], _ => rfl
  | [], y :: b, h => by simp [W.keyToksAll] at h
  | x :: a, [], h => by simp [W.keyToksAll] at h
  | x :: a, y :: b, h => by
    obtain ⟨x1, x2⟩ := x
    obtain ⟨y1, y2⟩ := y
    simp [W.keyToksAll, W.keyToks, pd] at h
    obtain ⟨h1, h2, h3⟩ := h
    rw [h1, h2, toksAll_inj a b h3]
theorem lp_inj {a b : List Pr} (h : lp a = lp b) : a = b := by
  have : PyData.eqv (lp a) (lp b) = true := by
    rw [h, eqv_lp]
    exact decide_eq_true rfl
  rw [eqv_lp] at this
  exact of_decide_eq_true this
theorem ltL_irr (a : List Pr) : ltL a a = false := lex_irrefl _
theorem ltL_trans {a b c : List Pr} (h : ltL a b = true) (h2 : ltL b c = true) : ltL a c = true := lex_trans _ _ _ h h2
theorem ltL_neg {a b c : List Pr} (h : ltL a c = true) : ltL a b = true ∨ ltL b c = true := lex_negTrans _ _ _ h
theorem ltL_total {a b : List Pr} (h : ltL a b = false) (h2 : ltL b a = false) : a = b := by
  have e := lex_total _ _ h h2
  exact toksAll_inj a b e
def minL (x : List Pr) (xs : List (List Pr)) : List Pr := xs.foldl (fun a y => if ltL y a then y else a) x
def LeastL (m : List Pr) (xs : List (List Pr)) : Prop := m ∈ xs ∧ ∀ y ∈ xs, ltL y m = false
theorem minL_least : ∀ (xs : List (List Pr)) (x : List Pr), LeastL (minL x xs) (x :: xs)
  | [], x => ⟨List.mem_cons_self, fun y m => by rw [List.mem_singleton.mp m]; exact ltL_irr x⟩
  | y :: xs, x => by
    show LeastL (minL (if ltL y x then y else x) xs) (x :: y :: xs)
    have ih := minL_least xs (if ltL y x then y else x)
    generalize minL (if ltL y x then y else x) xs = m at ih
    obtain ⟨h1, h2⟩ := ih
    by_cases c : ltL y x = true
    · rw [if_pos c] at h1 h2
      refine ⟨List.mem_cons_of_mem _ h1, fun z mz => ?_⟩
      rcases List.mem_cons.mp mz with e | mz
      · rw [e]
        refine Bool.eq_false_iff.mpr fun t => ?_
        have := h2 y List.mem_cons_self
        rw [ltL_trans c t] at this
        cases this
      · exact h2 z mz
    · rw [if_neg c] at h1 h2
      have c := Bool.eq_false_iff.mpr c
      refine ⟨?_, fun z mz => ?_⟩
      · rcases List.mem_cons.mp h1 with e | m1
        · rw [e]
          exact List.mem_cons_self
        · exact List.mem_cons_of_mem _ (List.mem_cons_of_mem _ m1)
      · rcases List.mem_cons.mp mz with e | mz
        · exact h2 z (e ▸ List.mem_cons_self)
        · rcases List.mem_cons.mp mz with e | mz
          · rw [e]
            refine Bool.eq_false_iff.mpr fun t => ?_
            rcases ltL_neg (b := x) t with t | t
            · rw [c] at t
              cases t
            · rw [h2 x List.mem_cons_self] at t
              cases t
          · exact h2 z (List.mem_cons_of_mem _ mz)
theorem LeastL.uniq {a b : List Pr} {xs ys : List (List Pr)} (h : LeastL a xs) (h2 : LeastL b ys) (e : ∀ x, x ∈ xs ↔ x ∈ ys) : a = b :=
  ltL_total (h2.2 a ((e a).mp h.1)) (h.2 b ((e b).mpr h2.1))
theorem minD_lp (x : List Pr) : ∀ xs : List (List Pr), W.minD (lp x) (xs.map lp) = lp (minL x xs) := by
  intro xs
  unfold W.minD minL
  induction xs generalizing x with
  | nil => rfl
  | cons y xs ih =>
    rw [List.map_cons, List.foldl_cons, List.foldl_cons, ← ih]
    congr 1
    show (if ltL y x = true then lp y else lp x) = _
    split <;> rfl
theorem alike_pd (x y : Pr) : W.alike (pd x) (pd y) = true := rfl
theorem alikeAll_pd : ∀ a b : List Pr, W.alikeAll (a.map pd) (b.map pd) = true
  | [], _ => by simp [W.alikeAll]
  | _ :: _, [] => by simp [W.alikeAll]
  | x :: a, y :: b => by
    rw [List.map_cons, List.map_cons, W.alikeAll, alike_pd, alikeAll_pd a b]
    rfl
theorem alike_lp (a b : List Pr) : W.alike (lp a) (lp b) = true := by
  unfold lp
  rw [W.alike]
  exact alikeAll_pd a b
theorem plainAll_pd : ∀ l : List Pr, PyData.plainAll (l.map pd) = true
  | [] => by simp [PyData.plainAll]
  | x :: l => by
    rw [List.map_cons]
    simp [PyData.plainAll, PyData.plain, pd, plainAll_pd l]
theorem plain_lp (l : List Pr) : PyData.plain (lp l) = true := by
  unfold lp
  rw [PyData.plain]
  exact plainAll_pd l
theorem plainAll_lp : ∀ l : List (List Pr), PyData.plainAll (l.map lp) = true
  | [] => by simp [PyData.plainAll]
  | x :: l => by
    rw [List.map_cons, PyData.plainAll, plain_lp, plainAll_lp l]
    rfl
section
variable {X : Cx}
theorem cr_minL (hc : X.calm = true) (hu : X.A.units + 65 < cLine) : CallR X (.builtin "min") (fun xs H Q => ∃ l x xss, xs = [V.ref l] ∧ CellsL H l (x :: xss) ∧ ∀ a, Cells H a (minL x xss) → Q (.ref a) H) := by
  intro pins s σ H xs us Q I r h
  obtain ⟨l, x, xss, rfl, ⟨ts, hl, ht, ets⟩, q⟩ := h
  obtain ⟨its, rv, pl, hz⟩ := I.list (lst_of hl)
  rw [Vals.ref1 r]
  have dpa : DpAll X.K H (ts.map fun t => V.ref t.1) ((x :: xss).map lp) := by
    rw [← ets]
    have go : ∀ us : List (Addr × List Pr), (∀ t ∈ us, Cells H t.1 t.2) → DpAll X.K H (us.map fun t => V.ref t.1) ((us.map (·.2)).map lp) := fun us => by
      induction us with
      | nil => exact fun _ => .nil
      | cons t us ih => exact fun h => .cons (dp_cells (h t List.mem_cons_self)) (ih fun u m => h u (List.mem_cons_of_mem _ m))
    exact go ts ht
  obtain ⟨as, hr⟩ := Dp.readsAll I _ _ its dpa rv
  have dep := depAll_lp (x :: xss)
  have er : its = ts.map fun t => Value.ref t.1 := by
    have go : ∀ (us : List (Addr × List Pr)) (vs : List Value), Vals (us.map fun t => V.ref t.1) vs → vs = us.map fun t => Value.ref t.1 := fun us => by
      induction us with
      | nil => intro vs h; cases h; rfl
      | cons u us ih =>
        intro vs h
        cases h with
        | cons r1 r2 =>
          cases r1
          rw [ih _ r2]
          rfl
    exact go ts its rv
  refine W.min_list_data (x := lp x) (xs := xss.map lp) (I.ok.hd hc) pl.isList hr ⟨fun a ma b mb => ?_, fun a ma => ?_⟩ (by rw [← List.map_cons]; omega) fun i v h' tk bs hv rd k => ?_
  · obtain ⟨a, _, rfl⟩ := List.mem_map.mp (show a ∈ (x :: xss).map lp from ma)
    obtain ⟨b, _, rfl⟩ := List.mem_map.mp (show b ∈ (x :: xss).map lp from mb)
    exact alike_lp a b
  · obtain ⟨a, _, rfl⟩ := List.mem_map.mp (show a ∈ (x :: xss).map lp from ma)
    intro z
    cases z
  · rw [minD_lp] at rd
    have hv' : its[i]? = some v := by simpa using hv
    rw [er, List.getElem?_map] at hv'
    obtain ⟨t, et, rfl⟩ := Option.map_eq_some_iff.mp hv'
    have mt := List.mem_of_getElem? et
    obtain ⟨as2, r2⟩ := Dp.reads I (lp t.2) (.ref t.1) (.ref t.1) (dp_cells (ht t mt)) rfl
    have e := W.alike_unique _ _ _ _ _ (alike_lp _ _) rd (Reads.keeps k r2)
    refine ⟨.ref t.1, H, I.kept k, rfl, q t.1 ?_⟩
    rw [lp_inj e]
    exact ht t mt
theorem count_lp (p : List Pr) : ∀ pss : List (List Pr), (pss.map lp).countP (fun y => PyData.eqv y (lp p)) = pss.count p
  | [] => rfl
  | x :: pss => by
    rw [List.map_cons, List.countP_cons, List.count_cons, count_lp p pss, eqv_lp]
    by_cases e : x = p
    · simp [e]
    · simp [e]
theorem mt_countL (hu : X.A.units + 65 < cLine) : MtR X "list.count" (fun x xs H Q => ∃ (a t : Addr) (p : List Pr) (pss : List (List Pr)), x = .ref a ∧ xs = [.ref t] ∧ Cells H t p ∧ CellsL H a pss ∧ Q (.int (pss.count p : Nat)) H) := by
  intro pins s σ H x xs v us Q I rx rxs h
  obtain ⟨a, t, p, pss, rfl, rfl, hp, hl, q⟩ := h
  cases rx
  obtain ⟨u, rfl, ru⟩ := rxs.one
  obtain ⟨as, r1⟩ := Dp.reads I (lp p) (.ref t) u (dp_cells hp) ru
  have dl := dp_cellsL (K := X.K) hl
  have dep := depAll_lp pss
  cases dl with
  | lst hs ha =>
    obtain ⟨its, rv, pl, hz⟩ := I.list hs
    obtain ⟨bs, hr⟩ := Dp.readsAll I _ _ its ha rv
    refine SeqAt.count_list_data pl.isList hr r1 (plainAll_lp pss) (plain_lp p) (by have := Nat.min_le_left (PyData.depthAll (pss.map lp)) (lp p).depth; omega) ?_
    rw [count_lp]
    exact ⟨.int (pss.count p : Nat), H, I.tok _, ⟨_, rfl⟩, q⟩
end
theorem ix_listK {X : Cx} {K : PySem.W.Frag} (hK : X.K = K) : IxR X (rIxL K) := by
  subst hK
  exact ix_list
theorem op_eqDK {X : Cx} {K : PySem.W.Frag} (hK : X.K = K) (hu : X.A.units + 64 < cLine) : OpR X (compareOp .Eq) (rEqD K) := by
  subst hK
  exact op_eqD hu
/-- a comprehension over such a list, a new list of pairs for each -/
theorem lc_lists {K : PySem.W.Frag} {l : Addr} {pss : List (List Pr)} {g : TG} {tt : TT} {te : TE} {vs : List Nat} {σ : L2.St} {H1 : Hp} {D : Addr} {Qd : Hp → Prop} (f : List Pr → List Pr) (hC : CellsL H1 l pss) (nD : H1 D = none) (few : pss.length < sizeLine)
    (hs : ∀ (t : Addr) (ps : List Pr) (H' : Hp) (Po : V → Hp → Prop) (Pn : Hp → Prop), ps ∈ pss → Same H1 H' → Cells H' t ps → (∀ H2 t2, Same H' H2 → H' t2 = none → Cells H2 t2 (f ps) → Po (.ref t2) H2) →
      g (.ref t) (wipe σ vs) H' fun σ2 H2 => wipe σ2 vs = wipe σ vs ∧ tt σ2 H2 fun b H3 => if b = true then te σ2 H3 Po else Pn H3)
    (hd : ∀ H', Same H1 H' → CellsL H' D (pss.map f) → Qd H') :
    ∃ W : Nat → Nat → Hp → Prop, (∃ m, W 0 m (upd H1 D (.lst []))) ∧ ∀ i m H, W i m H →
      ((Itl K l).stop i H ∧ Qd H) ∨ ((Itl K l).go i H ∧ ∃ Nx : Hp → Prop, (∀ H', Nx H' → ∃ m', m' < m ∧ W (i + 1) m' H') ∧ ∀ x H', (Itl K l).yld i H x H' → g x (wipe σ vs) H' fun σ2 H2 => wipe σ2 vs = wipe σ vs ∧ tt σ2 H2 fun b H3 =>
        if b = true then te σ2 H3 fun y H4 => ∃ acc, H4 D = some (.lst acc) ∧ acc.length < sizeLine ∧ Nx (upd H4 D (.lst (acc ++ [y]))) else Nx H3) := by
  obtain ⟨ts, hl, ht, rfl⟩ := hC
  rw [List.length_map] at few
  refine lc_list (K := K) (a := l) (xs := ts.map fun t => V.ref t.1) (fun i H' => Same H1 H' ∧ ∃ us : List (Addr × List Pr), H' D = some (.lst (us.map fun t => V.ref t.1)) ∧ (∀ t ∈ us, t.1 ≠ D ∧ Cells H' t.1 t.2) ∧ us.map (·.2) = ((ts.map (·.2)).take i).map f)
    ⟨newS nD, [], upd_same, fun _ m => (by cases m), rfl⟩ (fun i H' _ p => lst_of (p.1 _ _ hl)) ?_ ?_
  · rintro i x H' hi ⟨sm, us, h1, h2, h3⟩
    rw [List.getElem?_map] at hi
    obtain ⟨t, et, rfl⟩ := Option.map_eq_some_iff.mp hi
    have mt := List.mem_of_getElem? et
    have ei : (ts.map (·.2))[i]? = some t.2 := by rw [List.getElem?_map, et]; rfl
    have li := (List.getElem?_eq_some_iff.mp et).1
    have ul : us.length = i := by
      have z := congrArg List.length h3
      rw [List.length_map, List.length_map, List.length_take, List.length_map] at z
      omega
    refine hs t.1 t.2 H' _ _ (List.mem_map.mpr ⟨t, mt, rfl⟩) sm ((ht t mt).up sm) fun H2 t2 e2 n2 hc => ⟨us.map fun t => V.ref t.1, e2 _ _ h1, by rw [List.length_map]; omega, mutS (sm.trans e2) nD, us ++ [(t2, f t.2)], ?_, ?_, ?_⟩
    · rw [upd_same, List.map_append]
      rfl
    · have nD2 : t2 ≠ D := fun e => by
        rw [e, h1] at n2
        cases n2
      have nt : ∀ xs, H2 D ≠ some (.tup xs) := fun xs e => by
        rw [e2 _ _ h1] at e
        cases e
      intro u m
      rcases List.mem_append.mp m with m | m
      · exact ⟨(h2 u m).1, ((h2 u m).2.up e2).mut (h2 u m).1 nt⟩
      · rw [List.mem_singleton.mp m]
        exact ⟨nD2, hc.mut nD2 nt⟩
    · rw [List.map_append, h3, take_next ei, List.map_append]
      rfl
  · rintro H' ⟨sm, us, h1, h2, h3⟩
    refine hd H' sm ⟨us, h1, fun t m => (h2 t m).2, ?_⟩
    rw [h3, List.length_map, List.take_of_length_le (by rw [List.length_map]; exact Nat.le_refl _)]
end Vx
namespace PySem
open Sem (wp)
section
variable {prog : Program} {w : World} {K : Type} [DecidableEq K] {knd : HeapKind prog w K} {A : Around} {E : Value → Shared → Prop} {s : Shared}
theorem wpAny_truthy_dictH {d : Addr} {xs : List (K × Addr × Value)} {Q : Bool → Shared → Prop} (hd : (d == sysModules) = false) (hm : s.heap.DictOfH knd d xs) (hfit : (xs.length : Int) < 2 ^ 63)
    (h : Q (!xs.isEmpty) { s with toks := s.toks + 1 + 1 }) : wpAny (model prog w) A (truthy (.ref d)) Q E s := by
  have hne : ((xs.length : Int) != 0) = !xs.isEmpty := by cases xs <;> simp <;> omega
  have key : wpAny (model prog w) A (runValue (.builtin "len" ⟨[.ref d], []⟩)) (fun r s' => r = .int xs.length (s.toks + 1) ∧ Q (!xs.isEmpty) s') E s := by
    refine wpAny_runValue (codeAny_builtin entry_len ?_)
    rw [Around.under_plainId plain_len _]
    exact wpAny_mono (wpAny_len_body_dictH (Q := fun r s' => r = .int xs.length (s.toks + 1) ∧ Q (!xs.isEmpty) s') hd hm hfit ⟨rfl, h⟩)
      (fun fin s' h' => by obtain ⟨r, rfl, hq⟩ := h'; exact hq) fun _ _ e => e
  unfold truthy
  first
    | refine wpAny_bind (wpAny_callSpecial?_none (name := Str.ofString "__bool__") hm.typeIs noBool_dict ?_)
    | refine wpAny_bind (wpAny_pure (wpAny_bind (wpAny_callSpecial?_none (name := Str.ofString "__bool__") hm.typeIs noBool_dict ?_)))
  first
    | refine wpAny_bind (wpAny_specialOf (name := Str.ofString "__len__") hm.typeIs F.slot_dict_len.lookup ?_)
    | refine wpAny_bind (wpAny_pure (wpAny_bind (wpAny_specialOf (name := Str.ofString "__len__") hm.typeIs F.slot_dict_len.lookup ?_)))
  first
    | exact wpAny_bind (wpAny_mono key (fun r s' h' => by obtain ⟨rfl, hq⟩ := h'; exact wpAny_pure (hne ▸ hq)) fun _ _ e => e)
    | exact wpAny_bind (wpAny_pure (wpAny_bind (wpAny_mono key (fun r s' h' => by obtain ⟨rfl, hq⟩ := h'; exact wpAny_pure (hne ▸ hq)) fun _ _ e => e)))
end
end PySem
namespace Vx
open PySem PySem.Spec PyProof.Rows L2
theorem gName_go {i : Nat} {v : V} {σ : L2.St} {H : Hp} {Q : L2.St → Hp → Prop} (h : Q (σ.set i (some v)) H) : gName i v σ H Q := h
/-! ### min, max with a default, of ints -/
theorem foldl_min_mem : ∀ (ns : List Int) (n : Int), ns.foldl min n ∈ n :: ns ∧ ∀ y ∈ n :: ns, ns.foldl min n ≤ y
  | [], n => ⟨List.mem_cons_self, fun y m => by rw [List.mem_singleton.mp m]; exact Int.le_refl n⟩
  | k :: ns, n => by
    obtain ⟨h1, h2⟩ := foldl_min_mem ns (min n k)
    show ns.foldl min (min n k) ∈ _ ∧ ∀ y ∈ _, ns.foldl min (min n k) ≤ y
    have h0 := h2 _ List.mem_cons_self
    refine ⟨?_, fun y m => ?_⟩
    · rcases List.mem_cons.mp h1 with e | m
      · rw [e]
        rcases Int.le_total n k with c | c
        · rw [Int.min_eq_left c]; exact List.mem_cons_self
        · rw [Int.min_eq_right c]; exact List.mem_cons_of_mem _ List.mem_cons_self
      · exact List.mem_cons_of_mem _ (List.mem_cons_of_mem _ m)
    · rcases List.mem_cons.mp m with e | m
      · rw [e]; exact Int.le_trans h0 (Int.min_le_left _ _)
      · rcases List.mem_cons.mp m with e | m
        · rw [e]; exact Int.le_trans h0 (Int.min_le_right _ _)
        · exact h2 y (List.mem_cons_of_mem _ m)
theorem foldl_max_mem : ∀ (ns : List Int) (n : Int), ns.foldl max n ∈ n :: ns ∧ ∀ y ∈ n :: ns, y ≤ ns.foldl max n
  | [], n => ⟨List.mem_cons_self, fun y m => by rw [List.mem_singleton.mp m]; exact Int.le_refl n⟩
  | k :: ns, n => by
    obtain ⟨h1, h2⟩ := foldl_max_mem ns (max n k)
    show ns.foldl max (max n k) ∈ _ ∧ ∀ y ∈ _, y ≤ ns.foldl max (max n k)
    have h0 := h2 _ List.mem_cons_self
    refine ⟨?_, fun y m => ?_⟩
    · rcases List.mem_cons.mp h1 with e | m
      · rw [e]
        rcases Int.le_total n k with c | c
        · rw [Int.max_eq_right c]; exact List.mem_cons_of_mem _ List.mem_cons_self
        · rw [Int.max_eq_left c]; exact List.mem_cons_self
      · exact List.mem_cons_of_mem _ (List.mem_cons_of_mem _ m)
    · rcases List.mem_cons.mp m with e | m
      · rw [e]; exact Int.le_trans (Int.le_max_left _ _) h0
      · rcases List.mem_cons.mp m with e | m
        · rw [e]; exact Int.le_trans (Int.le_max_right _ _) h0
        · exact h2 y (List.mem_cons_of_mem _ m)
theorem alike_ints (ns : List Int) : W.AlikeAll (ns.map PyData.int) := ⟨fun a ma b mb => by
    obtain ⟨x, _, rfl⟩ := List.mem_map.mp ma
    obtain ⟨y, _, rfl⟩ := List.mem_map.mp mb
    simp [W.alike], fun a ma => by
    obtain ⟨x, _, rfl⟩ := List.mem_map.mp ma
    intro z
    cases z⟩
section
variable {X : Cx}
def rDflt (K : PySem.W.Frag) (le : Int → Int → Prop) : List V → List V → Hp → VK → Prop := fun vs zs H Q => ∃ (a : Addr) (ns : List Int) (d : V), vs = [V.ref a] ∧ zs = [d] ∧ SqL K H a (ns.map V.int) ∧ (ns = [] → Q d H) ∧ ∀ m, m ∈ ns → (∀ y ∈ ns, le m y) → Q (.int m) H
theorem cr_minD (hc : X.calm = true) (hu : X.A.units + 2 < cLine) : CallRK X (.builtin "min") [Str.ofString "default"] (rDflt X.K (fun m y => m ≤ y)) := by
  intro pins s σ H vs zs us ws Q I r rz h
  obtain ⟨a, ns, d, rfl, rfl, hs, q0, q⟩ := h
  obtain rfl := Vals.ref1 r
  obtain ⟨w1, rfl, e1⟩ := vals1 rz
  obtain ⟨its, rv, pl, hz⟩ := I.list hs
  obtain ⟨as, hr⟩ := Dp.readsAll I _ _ its (dpAll_ints ns) rv
  refine W.min_list_default (I.ok.hd hc) pl.isList hr (alike_ints ns) (by rw [depAll_ints]; omega) (fun z h' tk k => ?_) fun y ys i v h' tk bs e hv rd k => ?_
  · exact ⟨d, H, I.kept k, e1, q0 (List.map_eq_nil_iff.mp z)⟩
  · cases ns with
    | nil => cases e
    | cons n ns =>
      injection e with e1 e2
      subst e1 e2
      rw [W.minD_ints] at rd
      obtain ⟨h1, h2⟩ := foldl_min_mem ns n
      cases rd
      exact ⟨.int _, H, I.kept k, ⟨_, rfl⟩, q _ h1 h2⟩
theorem cr_maxD (hc : X.calm = true) (hu : X.A.units + 2 < cLine) : CallRK X (.builtin "max") [Str.ofString "default"] (rDflt X.K (fun m y => y ≤ m)) := by
  intro pins s σ H vs zs us ws Q I r rz h
  obtain ⟨a, ns, d, rfl, rfl, hs, q0, q⟩ := h
  obtain rfl := Vals.ref1 r
  obtain ⟨w1, rfl, e1⟩ := vals1 rz
  obtain ⟨its, rv, pl, hz⟩ := I.list hs
  obtain ⟨as, hr⟩ := Dp.readsAll I _ _ its (dpAll_ints ns) rv
  refine W.max_list_default (I.ok.hd hc) pl.isList hr (alike_ints ns) (by rw [depAll_ints]; omega) (fun z h' tk k => ?_) fun y ys i v h' tk bs e hv rd k => ?_
  · exact ⟨d, H, I.kept k, e1, q0 (List.map_eq_nil_iff.mp z)⟩
  · cases ns with
    | nil => cases e
    | cons n ns =>
      injection e with e1 e2
      subst e1 e2
      rw [W.maxD_ints] at rd
      obtain ⟨h1, h2⟩ := foldl_max_mem ns n
      cases rd
      exact ⟨.int _, H, I.kept k, ⟨_, rfl⟩, q _ h1 h2⟩
/-- if d: of a dict with tuple keys -/
theorem pt_truT {a : Expr} {ta : TE} (ha : PE X a ta) (he : ∀ whole, isTrue a X.env whole = (do let v ← whole; standAt a.pos; holding [v] (truthy v))) :
    PT X a (fun σ H Q => ta σ H fun x H' => ∃ (p : Addr) (kvs : List (List L2.Key × V)), x = .ref p ∧ H' p = some (.dT kvs) ∧ Q (!kvs.isEmpty) H') := by
  refine ⟨fun pins s σ H Q I h => ?_⟩
  refine isTrue_plain (thn (ha.run pins s σ H _ I h) fun v s1 ⟨x, H1, I1, r1, q1⟩ => ?_) (he _)
  obtain ⟨p, kvs, rfl, hp, q⟩ := q1
  obtain rfl : v = .ref p := r1
  obtain ⟨z, hd, ys, rel, dd⟩ := dt_of I1.hok hp
  have hl : kvs.length = ys.length := Paired.length rel
  have hi : (!ys.isEmpty) = !kvs.isEmpty := by
    cases ys <;> cases kvs <;> first | rfl | (simp at hl)
  refine PySem.wpAny_truthy_dictH hd dd (by rw [← hl]; rw [sizeLine_eq] at z; omega) ?_
  rw [hi]
  exact ⟨H1, I1.tok _, q⟩
end
/-- the keys of such a dict, a number of each -/
theorem lc_keysN {d : Addr} {od : Obj} {kvs : List (List L2.Key × V)} {ps : List Pr} {vs : List Nat} {σ : L2.St} {H1 : Hp} {D : Addr} {Qd : Hp → Prop} {g : TG} {tt : TT} {te : TE} (f : Pr → Int) (hK : KeysP kvs ps) (hD : H1 d = some (.frz od (.dT kvs))) (nD : H1 D = none) (few : ps.length < sizeLine)
    (hs : ∀ (t : Addr) (x : Pr) (H' : Hp) (Po : V → Hp → Prop) (Pn : Hp → Prop), x ∈ ps → H' t = some (.tup [.int x.1, .int x.2]) → Po (.int (f x)) H' →
      g (.ref t) (wipe σ vs) H' fun σ2 H2 => wipe σ2 vs = wipe σ vs ∧ tt σ2 H2 fun b H3 => if b = true then te σ2 H3 Po else Pn H3)
    (hd : ∀ H', Same H1 H' → H' D = some (.lst ((ps.map f).map V.int)) → Qd H') :
    ∃ W : Nat → Nat → Hp → Prop, (∃ m, W 0 m (upd H1 D (.lst []))) ∧ ∀ i m H, W i m H →
      ((Itkt d od kvs).stop i H ∧ Qd H) ∨ ((Itkt d od kvs).go i H ∧ ∃ Nx : Hp → Prop, (∀ H', Nx H' → ∃ m', m' < m ∧ W (i + 1) m' H') ∧ ∀ x H', (Itkt d od kvs).yld i H x H' → g x (wipe σ vs) H' fun σ2 H2 => wipe σ2 vs = wipe σ vs ∧ tt σ2 H2 fun b H3 =>
        if b = true then te σ2 H3 fun y H4 => ∃ acc, H4 D = some (.lst acc) ∧ acc.length < sizeLine ∧ Nx (upd H4 D (.lst (acc ++ [y]))) else Nx H3) := by
  have len := hK.len
  refine lc_it walk_keysT (fun i H' => Same H1 H' ∧ H' D = some (.lst (((ps.take i).map f).map V.int)))
    ⟨newS nD, upd_same⟩ (fun i H' _ p => p.1 _ _ hD) ?_ ?_
  · rintro i x H' H2 hi ⟨sm, h1⟩ ⟨rfl, k, v, q, e, rfl, hq⟩
    obtain ⟨y, hy, ek⟩ := hK.at e
    rw [ek] at hq
    refine hs q y _ _ _ (List.mem_of_getElem? hy) hq ⟨_, h1, ?_, mutS sm nD, ?_⟩
    · rw [List.length_map, List.length_map, List.length_take]
      omega
    · rw [upd_same, take_next hy, List.map_append, List.map_append]
      rfl
  · rintro H' ⟨sm, h1⟩
    rw [List.take_of_length_le (by omega)] at h1
    exact hd H' sm h1
end Vx
namespace Vx
open PySem PySem.Spec PyProof.Rows L2
/-! ### dict comprehensions with two loops -/
def emD0 (kx vx : Expr) (acc : Value) (env : Env) : Sem Unit := do
  let kv ← eval kx env
  let vv ← holding [kv] (eval vx env)
  match acc with
  | .ref d => do
    standAt { kx.pos with endLine := vx.pos.endLine, endCol := vx.pos.endCol }
    holding [kv, vv] (dictSet d kv vv)
  | _ => unsupported "internal:dictcomp"
def emD (kx vx : Expr) (acc : Value) (env : Env) (k : Unit → Sem PySem.Fin) : Sem PySem.Fin := emD0 kx vx acc env >>= k
def tEmD (tk tv : TE) (D : Addr) : EMT := fun σ H Nx => tk σ H fun y H4 => tv σ H4 fun z H5 => ∃ (kvs : List (List L2.Key × V)) (k : List L2.Key) (b : Addr), y = .ref b ∧ H5 b = some (.tup (k.map kV)) ∧ H5 D = some (.dT kvs) ∧ kvs.length < sizeLine ∧ Nx (upd H5 D (.dT (putK kvs k z)))
theorem runs_put {Y : Cx} (hu : Y.A.units < cLine) (xe0 : Y.xe = fun _ _ => False) {kx vx : Expr} {tk tv : TE} {D : Addr} (vs : List Nat) (pk : PE Y kx tk) (pv : PE Y vx tv) : Runs Y vs (tEmD tk tv D) (emD kx vx (.ref D) Y.env) := by
  intro pins s σ H Nx c Post E I h k
  unfold emD emD0
  have r := pk.run pins s σ H _ I h
  rw [xe0] at r
  refine wpAny_bind (wpAny_bind (wpAny_mono r (fun v s1 h1 => ?_) fun _ _ z => z.elim))
  obtain ⟨y, H1, I1, ry, h1⟩ := h1
  have r2 := pv.run pins s1 σ H1 _ I1 h1
  rw [xe0] at r2
  refine wpAny_bind (wpAny_holding (wpAny_mono r2 (fun v2 s2 h2 => ?_) fun _ _ z => z.elim))
  obtain ⟨z, H2, I2, rz, kvs, kk, b, rfl, hb, hD, few, nx⟩ := h2
  cases ry
  refine wpAny_bind (wpAny_standAt (wpAny_holding ?_))
  exact set_compT hu I2 hD few hb rz fun s3 I3 => wpAny_pure (k s3 _ (I3.weak (wipe_length ..) fun _ _ z => (wipe_some z).1) nx)
def tDcG (wi : TI) (g : TG) (tt : TT) (EM : Addr → EMT) (vs : List Nat) : TE := fun σ H Q => wi σ H fun J H1 => ∀ D : Addr, H1 D = none → ∃ W, (∃ m, W 0 m (upd H1 D (.dT []))) ∧ tTurns J g tt vs (EM D) σ (fun H => Q (.ref D) H) W
theorem pe_dcG {X : Cx} {kx vx tg iter : Expr} {ifs : List Expr} {rest : List Comprehension} {scope : Scope} {own : List (Str × Nat)} {pos p : Pos} {wi : TI} {g : TG} {tt : TT} {EM : Addr → EMT} {em : Value → Env → (Unit → Sem PySem.Fin) → Sem PySem.Fin}
    (hc : X.calm = true) (hN : X.N.Nodup) (hi : PI X tg iter wi) (ok : BlkOk X.N X.env.scope scope own)
    (hg : ∀ (s : Shared) (H : Hp) (C : Addr) (cl : List (Str × Addr)) (fp : List Addr), PG (X.blk s H scope (compEnvC scope cl C X.env) fp) tg g)
    (ht : ∀ (s : Shared) (H : Hp) (C : Addr) (cl : List (Str × Addr)) (fp : List Addr), PTs (X.blk s H scope (compEnvC scope cl C X.env) fp) ifs tt)
    (hem : ∀ (s : Shared) (H : Hp) (C : Addr) (cl : List (Str × Addr)) (fp : List Addr) (D : Addr), Runs (X.blk s H scope (compEnvC scope cl C X.env) fp) (own.map (·.2)) (EM D) (em (.ref D) (compEnvC scope cl C X.env)))
    (turn : ∀ it acc env, compTurn (.DictComp kx vx (⟨tg, iter, ifs, 0⟩ :: rest) scope pos) 0 it acc env = turnF p tg ifs (em acc env) (Code.compLoop (.DictComp kx vx (⟨tg, iter, ifs, 0⟩ :: rest) scope pos) 0 it acc env) it env)
    (hs : ∀ x, foldedSetIterable iter X.env x = pure x) : PE X (.DictComp kx vx (⟨tg, iter, ifs, 0⟩ :: rest) scope pos) (tDcG wi g tt EM (own.map (·.2))) := by
  refine ⟨fun pins s σ H Q I h => ?_⟩
  rw [arm_eval_DictComp]
  have hfree : ∀ y ∈ scope.names, y.2 = NameKind.free → ∃ c, List.lookup y.1 X.env.cells = some c := fun y hy e => (ok.free y hy e).elim (fun k => I.ok.has y.1 (.inl k)) fun k => I.ok.has y.1 (.inr k)
  refine wpAny_comprehension_free (use := none) rfl hs (closure_ok hfree) ok.kind (fun y hy e => by rw [ok.uniq y hy, e]) ?_
  refine wpAny_mono (hi.run pins s σ H _ I h) (fun xv s1 hx => ?_) fun _ _ z => z
  refine wpAny_mono hx (fun itv s2 h2 => ?_) fun _ _ z => z
  obtain ⟨it, fp, tn, J, H2, rfl, I2, T, t2, f2, q⟩ := h2
  refine wpAny_newObj_type (newEnv_comp ?_)
  have hDn : H2 s2.heap.objs.size = none := I2.hok.fresh (Nat.le_refl _)
  obtain ⟨W, ⟨m0, w0⟩, turns⟩ := q _ hDn
  have I3 : L2.Inv X pins σ (upd H2 s2.heap.objs.size (.dT [])) { s2 with heap := s2.heap.push { cls := .type "dict", data := .dict #[] } } :=
    I2.laid (t' := s2.toks) (fun b o e => Heap.get?_push_of_some _ e) (Nat.le_refl _) (dt_empty s2.heap I2.big)
  generalize es3 : ({ s2 with heap := s2.heap.push { cls := .type "dict", data := .dict #[] } } : Shared) = s3 at I3 ⊢
  have h3 : s3.heap = s2.heap.push { cls := .type "dict", data := .dict #[] } := by rw [← es3]
  have f3 : ∀ b ∈ fp, FpOk X pins (upd H2 s2.heap.objs.size (.dT [])) b ∧ b < s3.heap.objs.size := fun b hb => by
    obtain ⟨o, ho, _⟩ := T.obj 0 _ t2 b hb
    have lt := Heap.lt_size ho
    refine ⟨⟨?_, (f2 b hb).2⟩, ?_⟩
    · rw [upd_ne (Nat.ne_of_lt lt)]
      exact (f2 b hb).1
    · rw [h3, Heap.size_push]
      exact Nat.lt_succ_of_lt lt
  have st3 : tn 0 s3.heap := T.keep 0 _ _ t2 fun b _ o e => by
    rw [h3]
    exact Heap.get?_push_of_some _ e
  have I4 := block_start I3 ok hN f3
  have st4 := T.keep 0 _ (pushCells (s3.heap.push { cls := .type "dict", data := .dict #[] }) scope.names) st3 fun b _ o e => pushCells_keeps scope.names _ b o (Heap.get?_push_of_some _ e)
  clear es3
  generalize s2.heap.objs.size = D at *
  show codeAny (model X.prog X.w) X.A (Code.compStart _ 0 (.ref it) (.ref D) (compEnvC scope (cellsFrom (s3.heap.objs.size + 1) scope.names (cloFrom X.env.cells scope.names [])) s3.heap.objs.size X.env)) _ _
  have loop := lvl (Y := X.blk s3 (upd H2 D (.dT [])) scope (compEnvC scope (cellsFrom (s3.heap.objs.size + 1) scope.names (cloFrom X.env.cells scope.names [])) s3.heap.objs.size X.env) fp) (R := compPost (model X.prog X.w) X.A X.xe none (EP X pins σ Q) (.ref D) s3.heap.objs.size) (e := .DictComp kx vx (⟨tg, iter, ifs, 0⟩ :: rest) scope pos) (d := 0) (acc := .ref D) hc rfl T (hg _ _ _ _ _) (ht _ _ _ _ _) rfl rfl rfl (turn _ _ _) (EM := EM D) (vs := List.map (fun x : Str × Nat => x.2) own) (σ0 := σ) (W := W) (Qe := fun H => Q (.ref D) H)
    (fun pins s σ H Nx Post E I h k => hem _ _ _ _ _ D pins s σ H Nx _ Post E I h k) turns (fun s6 H5 I6 q6 => ?_) I4 st4 (fun b hb => ⟨(f3 b hb).1.1, (I4.ok.exf b hb).1, I4.ok.exfs b hb, .inl hb, (I4.ok.exf b hb).2, fun p hp => by cases hp⟩) w0
  · exact codeAny_compStart_dict loop (T.self X.A 0 _ _ _ st4 loop)
  · have I7 := Inv.call' I3 I6.os I6.base I6.hok I6.bare fun b hb => ⟨(f3 b hb).1.2.2.2.1, (f3 b hb).1.2.1, (f3 b hb).1.2.2.2.2.1, (f3 b hb).1.2.2.2.2.2⟩
    obtain ⟨m, hn, _⟩ := I6.loc
    obtain ⟨a0, a1, a2, a3, a4, a5⟩ := Inv.fpOk I3 (Nat.le_refl _) I6.free
    exact ⟨m, hn, fun h' sb => ⟨.ref D, H5, Inv.turned I7 (fun b o hb e => (sb.2 b hb).trans e) a0 a1 a3 a4 a5, rfl, q6⟩⟩
/-- {k: v for a in xs for b in ys} -/
theorem pe_dcD {X : Cx} {kx vx tg iter tg1 iter1 : Expr} {ifs ifs1 : List Expr} {scope : Scope} {own : List (Str × Nat)} {vs1 : List Nat} {pos : Pos} {wi wi1 : TI} {g g1 : TG} {tt tt1 : TT} {tk tv : TE}
    (hc : X.calm = true) (hu : X.A.units < cLine) (hN : X.N.Nodup) (hi : PI X tg iter wi) (ok : BlkOk X.N X.env.scope scope own) (hv1 : ∀ i ∈ vs1, i ∈ List.map (fun x : Str × Nat => x.2) own)
    (hg : ∀ (s : Shared) (H : Hp) (C : Addr) (cl : List (Str × Addr)) (fp : List Addr), PG (X.blk s H scope (compEnvC scope cl C X.env) fp) tg g)
    (ht : ∀ (s : Shared) (H : Hp) (C : Addr) (cl : List (Str × Addr)) (fp : List Addr), PTs (X.blk s H scope (compEnvC scope cl C X.env) fp) ifs tt)
    (hi1 : ∀ (s : Shared) (H : Hp) (C : Addr) (cl : List (Str × Addr)) (fp : List Addr), PI (X.blk s H scope (compEnvC scope cl C X.env) fp) tg1 iter1 wi1)
    (hg1 : ∀ (s : Shared) (H : Hp) (C : Addr) (cl : List (Str × Addr)) (fp : List Addr), PG (X.blk s H scope (compEnvC scope cl C X.env) fp) tg1 g1)
    (ht1 : ∀ (s : Shared) (H : Hp) (C : Addr) (cl : List (Str × Addr)) (fp : List Addr), PTs (X.blk s H scope (compEnvC scope cl C X.env) fp) ifs1 tt1)
    (hk : ∀ (s : Shared) (H : Hp) (C : Addr) (cl : List (Str × Addr)) (fp : List Addr), PE (X.blk s H scope (compEnvC scope cl C X.env) fp) kx tk)
    (hv : ∀ (s : Shared) (H : Hp) (C : Addr) (cl : List (Str × Addr)) (fp : List Addr), PE (X.blk s H scope (compEnvC scope cl C X.env) fp) vx tv)
    (hs : ∀ x, foldedSetIterable iter X.env x = pure x := by intro _; rfl) (hs1 : ∀ env x, foldedSetIterable iter1 env x = pure x := by intro _ _; rfl) :
    PE X (.DictComp kx vx [⟨tg, iter, ifs, 0⟩, ⟨tg1, iter1, ifs1, 0⟩] scope pos) (tDcG wi g tt (fun D => tIn wi1 g1 tt1 vs1 (tEmD tk tv D)) (own.map (·.2))) := by
  refine pe_dcG (em := fun acc env => emI (.DictComp kx vx [⟨tg, iter, ifs, 0⟩, ⟨tg1, iter1, ifs1, 0⟩] scope pos) 1 iter1 acc env) hc hN hi ok hg ht (fun s H C cl fp D => ?_) (fun _ _ _ => rfl) hs
  refine runs_in (Y := X.blk s H scope (compEnvC scope cl C X.env) fp) (gc := ⟨tg1, iter1, ifs1, 0⟩) hc rfl hv1 (hi1 s H C cl fp) (hg1 s H C cl fp) (ht1 s H C cl fp) (em := fun k => emD kx vx (.ref D) (compEnvC scope cl C X.env) k) ?_ (hs1 _) (fun _ => rfl) (fun _ => rfl) (fun _ => rfl) (fun _ => rfl) (fun _ => rfl) rfl rfl (fun _ => rfl)
  exact runs_put (Y := X.blk s H scope (compEnvC scope cl C X.env) fp) hu rfl vs1 (hk s H C cl fp) (hv s H C cl fp)
/-! ### sorted of any alike data -/
theorem each_zip {R : Value → V × PyData → Prop} : ∀ {xs : List V} {us : List Value} {ds : List PyData}, Vals xs us → xs.length = ds.length → (∀ x u d, (x, d) ∈ xs.zip ds → RelV x u → R u (x, d)) → W.EachIs R us (xs.zip ds)
  | [], _, [], .nil, _, _ => .nil
  | x :: xs, _, d :: ds, .cons r rs, h, g => .cons (g x _ d List.mem_cons_self r) (each_zip rs (by simpa using h) fun y u e m => g y u e (List.mem_cons_of_mem _ m))
theorem vals_each : ∀ {us : List Value} {bs : List (V × PyData)}, W.EachIs (fun u (b : V × PyData) => RelV b.1 u) us bs → Vals (bs.map (·.1)) us
  | [], [], .nil => .nil
  | _ :: _, _ :: _, .cons r rs => .cons r (vals_each rs)
def srtD (xs : List V) (ds : List PyData) : List (V × PyData) := (xs.zip ds).mergeSort (W.dataLe false fun b => b.2)
theorem dpAll_len {K : PySem.W.Frag} {H : Hp} : ∀ {xs : List V} {ds : List PyData}, DpAll K H xs ds → xs.length = ds.length
  | [], [], _ => rfl
  | x :: xs, [], h => by cases h
  | [], d :: ds, h => by cases h
  | x :: xs, d :: ds, h => by
    cases h with
    | cons a b => rw [List.length_cons, List.length_cons, dpAll_len b]
theorem dpAll_zip {K : PySem.W.Frag} {H : Hp} : ∀ {xs : List V} {ds : List PyData}, DpAll K H xs ds → ∀ x d, (x, d) ∈ xs.zip ds → Dp K H x d
  | [], _, _, x, d, m => by cases m
  | x :: xs, [], h, y, e, m => by cases m
  | x :: xs, d :: ds, h, y, e, m => by
    cases h with
    | cons a b =>
      rcases List.mem_cons.mp m with m | m
      · injection m with m1 m2
        rw [m1, m2]
        exact a
      · exact dpAll_zip b y e m
theorem dpAll_of {K : PySem.W.Frag} {H : Hp} : ∀ {bs : List (V × PyData)}, (∀ b ∈ bs, Dp K H b.1 b.2) → DpAll K H (bs.map (·.1)) (bs.map (·.2))
  | [], _ => .nil
  | b :: bs, h => .cons (h b List.mem_cons_self) (dpAll_of fun c m => h c (List.mem_cons_of_mem _ m))
theorem srtD_dp {K : PySem.W.Frag} {H : Hp} {xs : List V} {ds : List PyData} (h : DpAll K H xs ds) : DpAll K H ((srtD xs ds).map (·.1)) ((srtD xs ds).map (·.2)) :=
  dpAll_of fun b m => dpAll_zip h b.1 b.2 ((List.mergeSort_perm _ _).mem_iff.mp m)
theorem srtD_data {xs : List V} {ds : List PyData} (h : xs.length = ds.length) : (srtD xs ds).map (·.2) = ds.mergeSort (W.dataLe false id) := by
  unfold srtD
  have e := List.map_mergeSort (r := W.dataLe false fun b : V × PyData => b.2) (s := W.dataLe false id) (f := fun b : V × PyData => b.2) (l := xs.zip ds) (fun a _ b _ => rfl)
  have z : (xs.zip ds).map (fun b : V × PyData => b.2) = ds := by
    show (xs.zip ds).map Prod.snd = ds
    rw [List.map_snd_zip]
    omega
  rw [z] at e
  exact e
section
variable {X : Cx}
theorem cr_sortedD (hu : X.A.units + 64 < cLine) : CallR X (.builtin "sorted") (fun us H Q => ∃ (a : Addr) (xs : List V) (ds : List PyData), us = [.ref a] ∧ SqL X.K H a xs ∧ DpAll X.K H xs ds ∧ W.AllAlike ds ∧ W.Sortable ds ∧ (∀ d ∈ ds, d.depth ≤ 60) ∧
    ∀ p, H p = none → Q (.ref p) (upd H p (.lst ((srtD xs ds).map (·.1))))) := by
  intro pins s σ H vs us Q I r h
  obtain ⟨a, xs, ds, rfl, hs, dp, al, so, dep, q⟩ := h
  obtain ⟨its, rv, hl, hz⟩ := I.list hs
  rw [Vals.ref1 r]
  have len := dpAll_len dp
  have lz : (xs.zip ds).map (·.2) = ds := by
    rw [List.map_snd_zip]
    omega
  have lb : (xs.zip ds).length = xs.length := by rw [List.length_zip, len, Nat.min_self]
  refine W.sorted_data (R := fun u (b : V × PyData) => RelV b.1 u) (enc := fun b : V × PyData => b.2) (bs := xs.zip ds) hl.isList (each_zip rv len fun _ _ _ _ r => r) (each_zip rv len fun x u d m r => Dp.reads I d x u (dpAll_zip dp x d m) r) (by rw [lz]; exact al) (by rw [lz]; exact so) (by rw [lb]; exact hz) (fun b m => ?_) fun out ho eo => ?_
  · have := dep b.2 (by rw [← lz]; exact List.mem_map.mpr ⟨b, m, rfl⟩)
    omega
  · obtain ⟨ep, he'⟩ := PyProof.Rows.sortedAll_at s.heap its (List.toArray out)
    have vo := vals_each eo
    exact ⟨.ref _, upd H (s.heap.objs.size + 1) (.lst ((srtD xs ds).map (·.1))), I.laid (t' := s.toks) (fun _ _ => PyProof.Rows.sortedAll_old) (Nat.le_succ _) ⟨by
      have hl2 : (srtD xs ds).length = xs.length := by unfold srtD; rw [List.length_mergeSort, lb]
      rw [List.length_map, hl2]
      exact hz, out, ep, vo, he'⟩, rfl, q _ (I.hok.fresh (Nat.le_succ _))⟩
/-! ### math.comb -/
theorem cr_comb : CallR X (.builtin "math.comb") (fun vs H Q => ∃ a b : Nat, vs = [.int (a : Int), .int (b : Int)] ∧ a ≤ 1000 ∧ b ≤ a ∧ ∀ c : Nat, 0 < c → Q (.int (c : Int)) H) := by
  intro pins s σ H vs us Q I r h
  obtain ⟨a, b, rfl, ha, hb, q⟩ := h
  obtain ⟨t, u, rfl⟩ := Vals.int2 r
  refine PySem.W.mc_comb (by omega) (by omega) (by omega) (.inl (by omega)) fun m => ?_
  obtain ⟨m1, m2, _⟩ := m
  have m2 := m2 (by omega)
  obtain ⟨c, ec⟩ := Int.eq_ofNat_of_zero_le m1
  have c0 : 0 < c := by omega
  refine ⟨.int _, H, I.tok _, ⟨_, rfl⟩, ?_⟩
  rw [ec]
  exact q c c0
end
end Vx
namespace My
open PySem PySem.Spec PyProof.Rows L2 Vx
def topS (i : Nat) : Stmt := PySem.Challenge.pw_longlife_k12_edits_and_windows_of_a_worl.main.body.getD i (.Pass ⟨0, 0, 0, 0⟩)
abbrev s_place_of : Stmt := topS 4
abbrev N_place_of : List Str := ["row", "column", "at"]
theorem sc_place_of : FnScope N_place_of ["row", "column"] (defScope s_place_of) := ⟨rfl, rfl, rfl, by decide +kernel, rfl, by decide +kernel, by decide +kernel⟩
abbrev s_blocks_of : Stmt := topS 5
abbrev N_blocks_of : List Str := ["cells", "blocks", "row", "column", "place", "block"]
theorem sc_blocks_of : FnScope N_blocks_of ["cells"] (defScope s_blocks_of) := ⟨rfl, rfl, rfl, by decide +kernel, rfl, by decide +kernel, by decide +kernel⟩
abbrev s_block_cells : Stmt := topS 6
abbrev N_block_cells : List Str := ["block", "cells", "lowest"]
theorem sc_block_cells : FnScope N_block_cells ["block"] (defScope s_block_cells) := ⟨rfl, rfl, rfl, by decide +kernel, rfl, by decide +kernel, by decide +kernel⟩
abbrev s_block_count : Stmt := topS 7
abbrev N_block_count : List Str := ["block", "digits"]
theorem sc_block_count : FnScope N_block_count ["block"] (defScope s_block_count) := ⟨rfl, rfl, rfl, by decide +kernel, rfl, by decide +kernel, by decide +kernel⟩
abbrev s_block_changed : Stmt := topS 8
abbrev N_block_changed : List Str := ["block", "other", "mode"]
theorem sc_block_changed : FnScope N_block_changed ["block", "other", "mode"] (defScope s_block_changed) := ⟨rfl, rfl, rfl, by decide +kernel, rfl, by decide +kernel, by decide +kernel⟩
abbrev s_Blocks_init : Stmt := inClass (topS 9) 0
abbrev N_Blocks_init : List Str := ["self", "rule", "level"]
theorem sc_Blocks_init : FnScope N_Blocks_init ["self", "rule"] (defScope s_Blocks_init) := ⟨rfl, rfl, rfl, by decide +kernel, rfl, by decide +kernel, by decide +kernel⟩
abbrev s_full_block : Stmt := topS 10
abbrev N_full_block : List Str := ["level", "size", "row", "first_cells"]
theorem sc_full_block : FnScope N_full_block ["level"] (defScope s_full_block) := ⟨rfl, rfl, rfl, by decide +kernel, rfl, by decide +kernel, by decide +kernel⟩
abbrev s_Store_init : Stmt := inClass (topS 14) 0
abbrev N_Store_init : List Str := ["self", "rule"]
theorem sc_Store_init : FnScope N_Store_init ["self", "rule"] (defScope s_Store_init) := ⟨rfl, rfl, rfl, by decide +kernel, rfl, by decide +kernel, by decide +kernel⟩
abbrev s_Store_small : Stmt := inClass (topS 14) 2
abbrev N_Store_small : List Str := ["self", "level", "block", "kept"]
theorem sc_Store_small : FnScope N_Store_small ["self", "level", "block"] (defScope s_Store_small) := ⟨rfl, rfl, rfl, by decide +kernel, rfl, by decide +kernel, by decide +kernel⟩
abbrev s_Store_new_square : Stmt := inClass (topS 14) 3
abbrev N_Store_new_square : List Str := ["self", "level", "count", "block", "parts"]
theorem sc_Store_new_square : FnScope N_Store_new_square ["self", "level", "count", "block", "parts"] (defScope s_Store_new_square) := ⟨rfl, rfl, rfl, by decide +kernel, rfl, by decide +kernel, by decide +kernel⟩
abbrev s_World_init : Stmt := inClass (topS 16) 0
abbrev N_World_init : List Str := ["self", "rule"]
theorem sc_World_init : FnScope N_World_init ["self", "rule"] (defScope s_World_init) := ⟨rfl, rfl, rfl, by decide +kernel, rfl, by decide +kernel, by decide +kernel⟩
abbrev s_World_put : Stmt := inClass (topS 16) 1
abbrev N_World_put : List Str := ["self", "row", "column", "alive"]
theorem sc_World_put : FnScope N_World_put ["self", "row", "column", "alive"] (defScope s_World_put) := ⟨rfl, rfl, rfl, by decide +kernel, rfl, by decide +kernel, by decide +kernel⟩
abbrev s_World_paste : Stmt := inClass (topS 16) 2
abbrev N_World_paste : List Str := ["self", "cells", "row", "column", "mode", "pasted", "place", "block", "changed", "down", "beside"]
theorem sc_World_paste : FnScope N_World_paste ["self", "cells", "row", "column", "mode"] (defScope s_World_paste) := ⟨rfl, rfl, rfl, by decide +kernel, rfl, by decide +kernel, by decide +kernel⟩
abbrev s_World_tidy : Stmt := inClass (topS 16) 4
abbrev N_World_tidy : List Str := ["self"]
theorem sc_World_tidy : FnScope N_World_tidy ["self"] (defScope s_World_tidy) := ⟨rfl, rfl, rfl, by decide +kernel, rfl, by decide +kernel, by decide +kernel⟩
abbrev s_World_alive : Stmt := inClass (topS 16) 5
abbrev N_World_alive : List Str := ["self", "row", "column", "place", "block"]
theorem sc_World_alive : FnScope N_World_alive ["self", "row", "column"] (defScope s_World_alive) := ⟨rfl, rfl, rfl, by decide +kernel, rfl, by decide +kernel, by decide +kernel⟩
abbrev s_World_count : Stmt := inClass (topS 16) 6
abbrev N_World_count : List Str := ["self", "block"]
theorem sc_World_count : FnScope N_World_count ["self"] (defScope s_World_count) := ⟨rfl, rfl, rfl, by decide +kernel, rfl, by decide +kernel, by decide +kernel⟩
abbrev s_World_cells : Stmt := inClass (topS 16) 7
abbrev N_World_cells : List Str := ["self"]
theorem sc_World_cells : FnScope N_World_cells ["self"] (defScope s_World_cells) := ⟨rfl, rfl, rfl, by decide +kernel, rfl, by decide +kernel, by decide +kernel⟩
abbrev s_World_bounds : Stmt := inClass (topS 16) 8
abbrev N_World_bounds : List Str := ["self", "living", "columns", "_", "column"]
theorem sc_World_bounds : FnScope N_World_bounds ["self"] (defScope s_World_bounds) := ⟨rfl, rfl, rfl, by decide +kernel, rfl, by decide +kernel, by decide +kernel⟩
abbrev s_World_window : Stmt := inClass (topS 16) 9
abbrev N_World_window : List Str := ["self", "row", "column", "height", "width", "places", "signs", "down", "beside", "_", "place", "line"]
theorem sc_World_window : FnScope N_World_window ["self", "row", "column", "height", "width"] (defScope s_World_window) := ⟨rfl, rfl, rfl, by decide +kernel, rfl, by decide +kernel, by decide +kernel⟩
abbrev s_World_cells_of_blocks : Stmt := inClass (topS 16) 10
abbrev N_World_cells_of_blocks : List Str := ["self", "places", "found", "row", "column", "living", "down", "beside"]
theorem sc_World_cells_of_blocks : FnScope N_World_cells_of_blocks ["self", "places"] (defScope s_World_cells_of_blocks) := ⟨rfl, rfl, rfl, by decide +kernel, rfl, by decide +kernel, by decide +kernel⟩
abbrev s_Rule_init : Stmt := inClass (topS 18) 0
abbrev N_Rule_init : List Str := ["self", "births", "survival"]
theorem sc_Rule_init : FnScope N_Rule_init ["self", "births", "survival"] (defScope s_Rule_init) := ⟨rfl, rfl, rfl, by decide +kernel, rfl, by decide +kernel, by decide +kernel⟩
abbrev s_law_cell : Stmt := topS 20
abbrev N_law_cell : List Str := ["script", "k"]
theorem sc_law_cell : FnScope N_law_cell ["script", "k"] (defScope s_law_cell) := ⟨rfl, rfl, rfl, by decide +kernel, rfl, by decide +kernel, by decide +kernel⟩
abbrev s_law_row : Stmt := topS 21
abbrev N_law_row : List Str := ["cell", "count", "bound", "rest", "mixed", "row", "k"]
theorem sc_law_row : FnScope N_law_row ["cell", "count", "bound"] (defScope s_law_row) := ⟨rfl, rfl, rfl, by decide +kernel, rfl, by decide +kernel, by decide +kernel⟩
abbrev s_law_integer : Stmt := topS 22
abbrev N_law_integer : List Str := ["value"]
theorem sc_law_integer : FnScope N_law_integer ["value"] (defScope s_law_integer) := ⟨rfl, rfl, rfl, by decide +kernel, rfl, by decide +kernel, by decide +kernel⟩
abbrev s_law_cells : Stmt := topS 23
abbrev N_law_cells : List Str := ["value", "cell"]
theorem sc_law_cells : FnScope N_law_cells ["value"] (defScope s_law_cells) := ⟨rfl, rfl, rfl, by decide +kernel, rfl, by decide +kernel, by decide +kernel⟩
abbrev s_law_numbers : Stmt := topS 24
abbrev N_law_numbers : List Str := ["cell", "x", "births", "survival", "k"]
theorem sc_law_numbers : FnScope N_law_numbers ["cell"] (defScope s_law_numbers) := ⟨rfl, rfl, rfl, by decide +kernel, rfl, by decide +kernel, by decide +kernel⟩
abbrev s_law_some : Stmt := topS 25
abbrev N_law_some : List Str := ["cell", "count", "height", "width", "x", "found", "y", "place"]
theorem sc_law_some : FnScope N_law_some ["cell", "count", "height", "width"] (defScope s_law_some) := ⟨rfl, rfl, rfl, by decide +kernel, rfl, by decide +kernel, by decide +kernel⟩
abbrev s_law_edit : Stmt := topS 26
abbrev N_law_edit : List Str := ["world", "alive", "x", "kind", "spread", "r", "c", "mode", "cells", "handed", "given", "i", "j", "now"]
theorem sc_law_edit : FnScope N_law_edit ["world", "alive", "x"] (defScope s_law_edit) := ⟨rfl, rfl, rfl, by decide +kernel, rfl, by decide +kernel, by decide +kernel⟩
abbrev s_law_living : Stmt := topS 27
abbrev N_law_living : List Str := ["alive", "place"]
theorem sc_law_living : FnScope N_law_living ["alive"] (defScope s_law_living) := ⟨rfl, rfl, rfl, by decide +kernel, rfl, by decide +kernel, by decide +kernel⟩
abbrev s_law_shows : Stmt := topS 28
abbrev N_law_shows : List Str := ["world", "cells", "x", "box", "r", "c", "h", "w", "due", "i", "j"]
theorem sc_law_shows : FnScope N_law_shows ["world", "cells", "x"] (defScope s_law_shows) := ⟨rfl, rfl, rfl, by decide +kernel, rfl, by decide +kernel, by decide +kernel⟩
abbrev s_law : Stmt := topS 29
abbrev N_law : List Str := ["script", "births", "survival", "world", "other", "alive", "cell"]
theorem sc_law : FnScope N_law ["script"] (defScope s_law) := ⟨rfl, rfl, rfl, by decide +kernel, rfl, by decide +kernel, by decide +kernel⟩
structure Txt (K : PySem.W.Frag) (mg : Str → Option Value) where
  C_Blocks : Addr
  g_Blocks : mg "Blocks" = some (.ref C_Blocks)
  cl_Blocks : Cls K C_Blocks
  na_Blocks__rule : NoAttr K C_Blocks "_rule"
  na_Blocks__full : NoAttr K C_Blocks "_full"
  C_Store : Addr
  g_Store : mg "Store" = some (.ref C_Store)
  cl_Store : Cls K C_Store
  na_Store__rule : NoAttr K C_Store "_rule"
  na_Store__blocks : NoAttr K C_Store "_blocks"
  na_Store__levels : NoAttr K C_Store "_levels"
  na_Store__counts : NoAttr K C_Store "_counts"
  na_Store__bits : NoAttr K C_Store "_bits"
  na_Store__parts : NoAttr K C_Store "_parts"
  na_Store__small : NoAttr K C_Store "_small"
  na_Store__large : NoAttr K C_Store "_large"
  na_Store__empty : NoAttr K C_Store "_empty"
  na_Store__futures : NoAttr K C_Store "_futures"
  C_World : Addr
  g_World : mg "World" = some (.ref C_World)
  cl_World : Cls K C_World
  na_World_generation : NoAttr K C_World "generation"
  na_World__rule : NoAttr K C_World "_rule"
  na_World__store : NoAttr K C_World "_store"
  na_World__living : NoAttr K C_World "_living"
  C_Rule : Addr
  g_Rule : mg "Rule" = some (.ref C_Rule)
  cl_Rule : Cls K C_Rule
  na_Rule_births : NoAttr K C_Rule "births"
  na_Rule_survival : NoAttr K C_Rule "survival"
  f_place_of : Addr
  d_place_of : FuncData
  F_place_of : Fun K "place_of" "place_of" s_place_of f_place_of d_place_of
  b_place_of : Binds K d_place_of ["row", "column"] []
  g_place_of : mg "place_of" = some (.ref f_place_of)
  f_blocks_of : Addr
  d_blocks_of : FuncData
  F_blocks_of : Fun K "blocks_of" "blocks_of" s_blocks_of f_blocks_of d_blocks_of
  b_blocks_of : Binds K d_blocks_of ["cells"] []
  g_blocks_of : mg "blocks_of" = some (.ref f_blocks_of)
  f_block_cells : Addr
  d_block_cells : FuncData
  F_block_cells : Fun K "block_cells" "block_cells" s_block_cells f_block_cells d_block_cells
  b_block_cells : Binds K d_block_cells ["block"] []
  g_block_cells : mg "block_cells" = some (.ref f_block_cells)
  f_block_count : Addr
  d_block_count : FuncData
  F_block_count : Fun K "block_count" "block_count" s_block_count f_block_count d_block_count
  b_block_count : Binds K d_block_count ["block"] []
  g_block_count : mg "block_count" = some (.ref f_block_count)
  f_block_changed : Addr
  d_block_changed : FuncData
  F_block_changed : Fun K "block_changed" "block_changed" s_block_changed f_block_changed d_block_changed
  b_block_changed : Binds K d_block_changed ["block", "other", "mode"] []
  g_block_changed : mg "block_changed" = some (.ref f_block_changed)
  f_Blocks_init : Addr
  d_Blocks_init : FuncData
  F_Blocks_init : Fun K "__init__" "Blocks.__init__" s_Blocks_init f_Blocks_init d_Blocks_init
  b_Blocks_init : Binds K d_Blocks_init ["self", "rule"] []
  M_Blocks : Mk K C_Blocks f_Blocks_init
  f_full_block : Addr
  d_full_block : FuncData
  F_full_block : Fun K "_full_block" "_full_block" s_full_block f_full_block d_full_block
  b_full_block : Binds K d_full_block ["level"] []
  g_full_block : mg "_full_block" = some (.ref f_full_block)
  f_Store_init : Addr
  d_Store_init : FuncData
  F_Store_init : Fun K "__init__" "Store.__init__" s_Store_init f_Store_init d_Store_init
  b_Store_init : Binds K d_Store_init ["self", "rule"] []
  M_Store : Mk K C_Store f_Store_init
  f_Store_small : Addr
  d_Store_small : FuncData
  F_Store_small : Fun K "small" "Store.small" s_Store_small f_Store_small d_Store_small
  b_Store_small : Binds K d_Store_small ["self", "level", "block"] []
  m_Store_small : Meth K C_Store "small" f_Store_small
  f_Store_new_square : Addr
  d_Store_new_square : FuncData
  F_Store_new_square : Fun K "_new_square" "Store._new_square" s_Store_new_square f_Store_new_square d_Store_new_square
  b_Store_new_square : Binds K d_Store_new_square ["self", "level", "count", "block", "parts"] []
  m_Store_new_square : Meth K C_Store "_new_square" f_Store_new_square
  f_World_init : Addr
  d_World_init : FuncData
  F_World_init : Fun K "__init__" "World.__init__" s_World_init f_World_init d_World_init
  b_World_init : Binds K d_World_init ["self", "rule"] []
  M_World : Mk K C_World f_World_init
  f_World_put : Addr
  d_World_put : FuncData
  F_World_put : Fun K "put" "World.put" s_World_put f_World_put d_World_put
  b_World_put : Binds K d_World_put ["self", "row", "column", "alive"] []
  m_World_put : Meth K C_World "put" f_World_put
  f_World_paste : Addr
  d_World_paste : FuncData
  F_World_paste : Fun K "paste" "World.paste" s_World_paste f_World_paste d_World_paste
  b_World_paste : Binds K d_World_paste ["self", "cells", "row", "column", "mode"] []
  m_World_paste : Meth K C_World "paste" f_World_paste
  f_World_tidy : Addr
  d_World_tidy : FuncData
  F_World_tidy : Fun K "tidy" "World.tidy" s_World_tidy f_World_tidy d_World_tidy
  b_World_tidy : Binds K d_World_tidy ["self"] []
  m_World_tidy : Meth K C_World "tidy" f_World_tidy
  f_World_alive : Addr
  d_World_alive : FuncData
  F_World_alive : Fun K "alive" "World.alive" s_World_alive f_World_alive d_World_alive
  b_World_alive : Binds K d_World_alive ["self", "row", "column"] []
  m_World_alive : Meth K C_World "alive" f_World_alive
  f_World_count : Addr
  d_World_count : FuncData
  F_World_count : Fun K "count" "World.count" s_World_count f_World_count d_World_count
  b_World_count : Binds K d_World_count ["self"] []
  m_World_count : Meth K C_World "count" f_World_count
  f_World_cells : Addr
  d_World_cells : FuncData
  F_World_cells : Fun K "cells" "World.cells" s_World_cells f_World_cells d_World_cells
  b_World_cells : Binds K d_World_cells ["self"] []
  m_World_cells : Meth K C_World "cells" f_World_cells
  f_World_bounds : Addr
  d_World_bounds : FuncData
  F_World_bounds : Fun K "bounds" "World.bounds" s_World_bounds f_World_bounds d_World_bounds
  b_World_bounds : Binds K d_World_bounds ["self"] []
  m_World_bounds : Meth K C_World "bounds" f_World_bounds
  f_World_window : Addr
  d_World_window : FuncData
  F_World_window : Fun K "window" "World.window" s_World_window f_World_window d_World_window
  b_World_window : Binds K d_World_window ["self", "row", "column", "height", "width"] []
  m_World_window : Meth K C_World "window" f_World_window
  f_World_cells_of_blocks : Addr
  d_World_cells_of_blocks : FuncData
  F_World_cells_of_blocks : Fun K "_cells_of_blocks" "World._cells_of_blocks" s_World_cells_of_blocks f_World_cells_of_blocks d_World_cells_of_blocks
  b_World_cells_of_blocks : Binds K d_World_cells_of_blocks ["self", "places"] []
  m_World_cells_of_blocks : Meth K C_World "_cells_of_blocks" f_World_cells_of_blocks
  f_Rule_init : Addr
  d_Rule_init : FuncData
  F_Rule_init : Fun K "__init__" "Rule.__init__" s_Rule_init f_Rule_init d_Rule_init
  b_Rule_init : Binds K d_Rule_init ["self", "births", "survival"] []
  M_Rule : Mk K C_Rule f_Rule_init
  f_law_cell : Addr
  d_law_cell : FuncData
  F_law_cell : Fun K "_law_cell" "_law_cell" s_law_cell f_law_cell d_law_cell
  b_law_cell : Binds K d_law_cell ["script", "k"] []
  g_law_cell : mg "_law_cell" = some (.ref f_law_cell)
  f_law_row : Addr
  d_law_row : FuncData
  F_law_row : Fun K "_law_row" "_law_row" s_law_row f_law_row d_law_row
  b_law_row : Binds K d_law_row ["cell", "count", "bound"] []
  g_law_row : mg "_law_row" = some (.ref f_law_row)
  f_law_integer : Addr
  d_law_integer : FuncData
  F_law_integer : Fun K "_law_integer" "_law_integer" s_law_integer f_law_integer d_law_integer
  b_law_integer : Binds K d_law_integer ["value"] []
  g_law_integer : mg "_law_integer" = some (.ref f_law_integer)
  f_law_cells : Addr
  d_law_cells : FuncData
  F_law_cells : Fun K "_law_cells" "_law_cells" s_law_cells f_law_cells d_law_cells
  b_law_cells : Binds K d_law_cells ["value"] []
  g_law_cells : mg "_law_cells" = some (.ref f_law_cells)
  f_law_numbers : Addr
  d_law_numbers : FuncData
  F_law_numbers : Fun K "_law_numbers" "_law_numbers" s_law_numbers f_law_numbers d_law_numbers
  b_law_numbers : Binds K d_law_numbers ["cell"] []
  g_law_numbers : mg "_law_numbers" = some (.ref f_law_numbers)
  f_law_some : Addr
  d_law_some : FuncData
  F_law_some : Fun K "_law_some" "_law_some" s_law_some f_law_some d_law_some
  b_law_some : Binds K d_law_some ["cell", "count", "height", "width"] []
  g_law_some : mg "_law_some" = some (.ref f_law_some)
  f_law_edit : Addr
  d_law_edit : FuncData
  F_law_edit : Fun K "_law_edit" "_law_edit" s_law_edit f_law_edit d_law_edit
  b_law_edit : Binds K d_law_edit ["world", "alive", "x"] []
  g_law_edit : mg "_law_edit" = some (.ref f_law_edit)
  f_law_living : Addr
  d_law_living : FuncData
  F_law_living : Fun K "_law_living" "_law_living" s_law_living f_law_living d_law_living
  b_law_living : Binds K d_law_living ["alive"] []
  g_law_living : mg "_law_living" = some (.ref f_law_living)
  f_law_shows : Addr
  d_law_shows : FuncData
  F_law_shows : Fun K "_law_shows" "_law_shows" s_law_shows f_law_shows d_law_shows
  b_law_shows : Binds K d_law_shows ["world", "cells", "x"] []
  g_law_shows : mg "_law_shows" = some (.ref f_law_shows)
  f_law : Addr
  d_law : FuncData
  F_law : Fun K "law" "law" s_law f_law d_law
  b_law : Binds K d_law ["script"] []
  g_law : mg "law" = some (.ref f_law)
  z_divmod : mg "divmod" = none
  z_range : mg "range" = none
  z_len : mg "len" = none
  z_sum : mg "sum" = none
  z_sorted : mg "sorted" = none
  z_min : mg "min" = none
  z_max : mg "max" = none
  z_tuple : mg "tuple" = none
  z_set : mg "set" = none
  z_int : mg "int" = none
  z_abs : mg "abs" = none
  z_isinstance : mg "isinstance" = none
  z_bool : mg "bool" = none
  z_list : mg "list" = none
  c_SIDE : ∃ u, mg "SIDE" = some u ∧ RelV (.int (32)) u
  c_TOP : ∃ u, mg "TOP" = some u ∧ RelV (.int (5)) u
  c_ALIVE : ∃ u, mg "ALIVE" = some u ∧ RelV (.str (Str.ofString "O")) u
  c_DEAD : ∃ u, mg "DEAD" = some u ∧ RelV (.str (Str.ofString ".")) u
end My
namespace My
open PySem PySem.Spec PyProof.Rows L2 Vx
open TL
local macro_rules | `(tactic| k_invariant "new" ($n, $H:ident, $e:ident, $h:ident)) => `(tactic| (generalize hE : upd _ _ _ = $H; obtain ⟨$e:ident, $h:ident⟩ := gen_e hE $n; clear hE))
local macro_rules | `(tactic| k_places) => `(tactic| first
  | assumption
  | exact lst_of (by assumption)
  | exact tup_of (by assumption)
  | (refine getS (by assumption) ?_; k_places)
  | (refine Same.seq (by assumption) ?_; k_places)
  | (refine tupS (by assumption) ?_; k_places)
  | (refine lst_of ?_; k_places)
  | (refine tup_of ?_; k_places))
local macro_rules | `(tactic| k_subL) => `(tactic| first
  | k_places
  | solve_by_elim (maxDepth := 10) [getS, lst_of, tup_of, Same.seq, tupS])
local macro_rules | `(tactic| k_offL) => `(tactic| first
  | (show (0 : Int) < _; first | omega | decide)
  | (refine ⟨?_, ?_⟩ <;> first | omega | decide)
  | exact .inr ⟨by decide, by decide⟩
  | exact .inl ⟨by decide, by decide⟩
  | exact .inl ⟨by omega, by omega⟩
  | omega)
local macro_rules | `(tactic| k_clsL) => `(tactic| exact Nat.le_of_ble_eq_true rfl)
local macro_rules | `(tactic| k_upd) => `(tactic| simp only [L2.start, List.map_cons, List.map_nil, List.length_cons, List.length_nil, List.replicate_succ, List.replicate_zero, List.cons_append, List.nil_append, List.set_cons_zero, List.set_cons_succ])
section
variable {P : Program} {w : World} {K : PySem.W.Frag} {mg : Str → Option Value} {base : Heap}
/-! ### blocks as numbers -/
def at32 (j : Nat) : Pr := (((j / 32 : Nat) : Int), ((j % 32 : Nat) : Int))
def cellsN (b : Nat) : List Pr := (bitsB 1024 b).map at32
def popN (b : Nat) : Nat := (bitsB 1024 b).length
def rowN (h : Nat) : Nat := 2 ^ h - 1
def fullN (l : Nat) : Nat := (2 ^ (2 ^ l) - 1) * ((2 ^ (2 ^ l * 32) - 1) / (2 ^ 32 - 1))
def cutN (l b row col : Nat) : Nat := (b >>> (row * 32 + col)) &&& fullN l
def putN (h a b c d : Nat) : Nat := ((a ||| b <<< h) ||| c <<< (h * 32)) ||| d <<< (h * 32 + h)
/-- all cells within the first 2^l rows and columns -/
def Fit (l b : Nat) : Prop := ∀ i, b.testBit i = true → i / 32 < 2 ^ l ∧ i % 32 < 2 ^ l
theorem cellsN_len (b : Nat) : (cellsN b).length = popN b := List.length_map ..
theorem bitsB_len (N n : Nat) : (bitsB N n).length ≤ N := by
  unfold bitsB
  exact Nat.le_trans (List.length_filter_le _ _) (by rw [List.length_range]; exact Nat.le_refl _)
theorem bitsB_asc (N n : Nat) : (bitsB N n).Pairwise (· < ·) := List.Pairwise.filter _ List.pairwise_lt_range
theorem at32_lt {i j : Nat} (h : i < j) : ltP (at32 i) (at32 j) := by
  rw [ltP_iff]
  unfold at32
  dsimp only
  omega
theorem at32_inj {i j : Nat} (h : at32 i = at32 j) : i = j := by
  unfold at32 at h
  injection h with h1 h2
  omega
theorem cellsN_asc (b : Nat) : (cellsN b).Pairwise ltP := List.pairwise_map.mpr ((bitsB_asc 1024 b).imp fun h => at32_lt h)
theorem mem_cellsN {b j : Nat} : at32 j ∈ cellsN b ↔ j < 1024 ∧ b.testBit j = true := by
  unfold cellsN
  rw [List.mem_map]
  constructor
  · rintro ⟨i, m, e⟩
    rw [at32_inj e] at m
    exact mem_bitsB.mp m
  · intro h
    exact ⟨j, mem_bitsB.mpr h, rfl⟩
theorem full_bits : ∀ l : Nat, l < 5 → ∀ i : Nat, i < 1024 → (fullN l).testBit i = (decide (i / 32 < 2 ^ l) && decide (i % 32 < 2 ^ l)) := by
  intro l hl
  have h0 : ∀ i, i < 1024 → (fullN 0).testBit i = (decide (i / 32 < 2 ^ 0) && decide (i % 32 < 2 ^ 0)) := by decide +kernel
  have h1 : ∀ i, i < 1024 → (fullN 1).testBit i = (decide (i / 32 < 2 ^ 1) && decide (i % 32 < 2 ^ 1)) := by decide +kernel
  have h2 : ∀ i, i < 1024 → (fullN 2).testBit i = (decide (i / 32 < 2 ^ 2) && decide (i % 32 < 2 ^ 2)) := by decide +kernel
  have h3 : ∀ i, i < 1024 → (fullN 3).testBit i = (decide (i / 32 < 2 ^ 3) && decide (i % 32 < 2 ^ 3)) := by decide +kernel
  have h4 : ∀ i, i < 1024 → (fullN 4).testBit i = (decide (i / 32 < 2 ^ 4) && decide (i % 32 < 2 ^ 4)) := by decide +kernel
  match l, hl with
  | 0, _ => exact h0
  | 1, _ => exact h1
  | 2, _ => exact h2
  | 3, _ => exact h3
  | 4, _ => exact h4
theorem full_lt {l : Nat} (h : l < 5) : fullN l < 2 ^ 1024 := by
  match l, h with
  | 0, _ => decide +kernel
  | 1, _ => decide +kernel
  | 2, _ => decide +kernel
  | 3, _ => decide +kernel
  | 4, _ => decide +kernel
theorem pow_le16 {l : Nat} (h : l < 5) : 2 ^ l ≤ 16 := by
  match l, h with
  | 0, _ => decide
  | 1, _ => decide
  | 2, _ => decide
  | 3, _ => decide
  | 4, _ => decide
theorem pow_le32 {l : Nat} (h : l < 6) : 2 ^ l ≤ 32 := by
  match l, h with
  | 0, _ => decide
  | 1, _ => decide
  | 2, _ => decide
  | 3, _ => decide
  | 4, _ => decide
  | 5, _ => decide
theorem fit_small {l b : Nat} (hl : l < 6) (h : Fit l b) : ∀ i, b.testBit i = true → i < 1024 := fun i t => by
  have := h i t
  have := pow_le32 hl
  omega
theorem fit_lt {l b : Nat} (hl : l < 6) (h : Fit l b) : b < 2 ^ 1024 := by
  refine Nat.lt_pow_two_of_testBit b fun i hi => ?_
  cases e : b.testBit i with
  | false => rfl
  | true =>
    have := fit_small hl h i e
    omega
theorem cut_bit {l b row col i : Nat} (hl : l < 5) : (cutN l b row col).testBit i = (b.testBit (row * 32 + col + i) && (decide (i / 32 < 2 ^ l) && decide (i % 32 < 2 ^ l))) := by
  unfold cutN
  rw [Nat.testBit_and, Nat.testBit_shiftRight]
  by_cases h : i < 1024
  · rw [full_bits l hl i h]
  · have z : (fullN l).testBit i = false := Nat.testBit_lt_two_pow (Nat.lt_of_lt_of_le (full_lt hl) (Nat.pow_le_pow_right (by decide) (by omega)))
    have := pow_le16 hl
    have z2 : decide (i / 32 < 2 ^ l) = false := decide_eq_false (by omega)
    rw [z, z2]
    simp
theorem cut_fit {l b row col : Nat} (hl : l < 5) : Fit l (cutN l b row col) := fun i h => by
  rw [cut_bit hl] at h
  simp only [Bool.and_eq_true, decide_eq_true_eq] at h
  exact h.2
theorem put_bit {h a b c d i : Nat} : (putN h a b c d).testBit i = (((a.testBit i || (decide (h ≤ i) && b.testBit (i - h))) || (decide (h * 32 ≤ i) && c.testBit (i - h * 32))) || (decide (h * 32 + h ≤ i) && d.testBit (i - (h * 32 + h)))) := by
  unfold putN
  rw [Nat.testBit_or, Nat.testBit_or, Nat.testBit_or, Nat.testBit_shiftLeft, Nat.testBit_shiftLeft, Nat.testBit_shiftLeft]
theorem put_cut {l b : Nat} (hl : l < 5) (hf : Fit (l + 1) b) : putN (2 ^ l) (cutN l b 0 0) (cutN l b 0 (2 ^ l)) (cutN l b (2 ^ l) 0) (cutN l b (2 ^ l) (2 ^ l)) = b := by
  refine Nat.eq_of_testBit_eq fun i => ?_
  rw [put_bit, cut_bit hl, cut_bit hl, cut_bit hl, cut_bit hl]
  have h16 := pow_le16 hl
  have p2 : 2 ^ (l + 1) = 2 * 2 ^ l := by rw [Nat.pow_succ, Nat.mul_comm]
  have hf := hf i
  rw [p2] at hf
  generalize 2 ^ l = h at *
  rw [Bool.eq_iff_iff]
  simp only [Bool.or_eq_true, Bool.and_eq_true, decide_eq_true_eq]
  constructor
  · rintro (((q | q) | q) | q)
    · rw [show 0 * 32 + 0 + i = i by omega] at q
      exact q.1
    · rw [show 0 * 32 + h + (i - h) = i by omega] at q
      exact q.2.1
    · rw [show h * 32 + 0 + (i - h * 32) = i by omega] at q
      exact q.2.1
    · rw [show h * 32 + h + (i - (h * 32 + h)) = i by omega] at q
      exact q.2.1
  · intro t
    have f := hf t
    by_cases r : i / 32 < h
    · by_cases c : i % 32 < h
      · refine .inl (.inl (.inl ⟨?_, r, c⟩))
        rw [show 0 * 32 + 0 + i = i by omega]
        exact t
      · refine .inl (.inl (.inr ⟨by omega, ?_, by omega, by omega⟩))
        rw [show 0 * 32 + h + (i - h) = i by omega]
        exact t
    · by_cases c : i % 32 < h
      · refine .inl (.inr ⟨by omega, ?_, by omega, by omega⟩)
        rw [show h * 32 + 0 + (i - h * 32) = i by omega]
        exact t
      · refine .inr ⟨by omega, ?_, by omega, by omega⟩
        rw [show h * 32 + h + (i - (h * 32 + h)) = i by omega]
        exact t
/-- the block of a list of cells -/
def bitOf (x : Pr) : Nat := x.1.toNat * 32 + x.2.toNat
def blockOf (ps : List Pr) : Nat := ps.foldl (fun acc x => acc ||| 1 <<< bitOf x) 0
def In32 (l : Nat) (ps : List Pr) : Prop := ∀ x ∈ ps, 0 ≤ x.1 ∧ x.1 < (2 ^ l : Nat) ∧ 0 ≤ x.2 ∧ x.2 < (2 ^ l : Nat)
theorem foldl_bits (ps : List Pr) : ∀ (a i : Nat), (ps.foldl (fun acc x => acc ||| 1 <<< bitOf x) a).testBit i = true ↔ a.testBit i = true ∨ ∃ x ∈ ps, bitOf x = i := by
  induction ps with
  | nil => intro a i; simp
  | cons x ps ih =>
    intro a i
    rw [List.foldl_cons, ih, Nat.testBit_or, Nat.one_shiftLeft, Nat.testBit_two_pow, Bool.or_eq_true, decide_eq_true_eq]
    constructor
    · rintro ((h | h) | ⟨y, m, e⟩)
      · exact .inl h
      · exact .inr ⟨x, List.mem_cons_self, h⟩
      · exact .inr ⟨y, List.mem_cons_of_mem _ m, e⟩
    · rintro (h | ⟨y, m, e⟩)
      · exact .inl (.inl h)
      · rcases List.mem_cons.mp m with z | m
        · rw [z] at e
          exact .inl (.inr e)
        · exact .inr ⟨y, m, e⟩
theorem blockOf_bit {ps : List Pr} {i : Nat} : (blockOf ps).testBit i = true ↔ ∃ x ∈ ps, bitOf x = i := by
  unfold blockOf
  rw [foldl_bits]
  simp
theorem bitOf_at {x : Pr} (h1 : 0 ≤ x.1) (h3 : 0 ≤ x.2) (h4 : x.2 < 32) : at32 (bitOf x) = x := by
  obtain ⟨a, b⟩ := x
  unfold at32 bitOf
  dsimp only at *
  refine Prod.ext ?_ ?_ <;> dsimp only <;> omega
theorem blockOf_fit {l : Nat} {ps : List Pr} (hl : l < 6) (h : In32 l ps) : Fit l (blockOf ps) := fun i t => by
  obtain ⟨x, m, e⟩ := blockOf_bit.mp t
  obtain ⟨h1, h2, h3, h4⟩ := h x m
  have := pow_le32 hl
  subst e
  unfold bitOf
  generalize 2 ^ l = p at *
  omega
theorem blockOf_cells {l : Nat} {ps : List Pr} (hl : l < 6) (h : In32 l ps) (asc : ps.Pairwise ltP) : cellsN (blockOf ps) = ps := by
  refine ascP_eq (cellsN_asc _) asc fun x => ?_
  constructor
  · intro m
    obtain ⟨j, mj, e⟩ := List.mem_map.mp m
    obtain ⟨y, my, ey⟩ := blockOf_bit.mp (mem_bitsB.mp mj).2
    obtain ⟨h1, h2, h3, h4⟩ := h y my
    have := pow_le32 hl
    rw [← ey, bitOf_at h1 h3 (by omega)] at e
    rw [← e]
    exact my
  · intro m
    obtain ⟨h1, h2, h3, h4⟩ := h x m
    have := pow_le32 hl
    have e := bitOf_at h1 h3 (by omega)
    rw [← e]
    have t : (blockOf ps).testBit (bitOf x) = true := blockOf_bit.mpr ⟨x, m, rfl⟩
    exact mem_cellsN.mpr ⟨fit_small hl (blockOf_fit hl h) _ t, t⟩
theorem blockOf_congr {ps qs : List Pr} (h : ∀ x, x ∈ ps ↔ x ∈ qs) : blockOf ps = blockOf qs := by
  refine Nat.eq_of_testBit_eq fun i => ?_
  rw [Bool.eq_iff_iff, blockOf_bit, blockOf_bit]
  exact ⟨fun ⟨x, m, e⟩ => ⟨x, (h x).mp m, e⟩, fun ⟨x, m, e⟩ => ⟨x, (h x).mpr m, e⟩⟩
theorem cells_block {b : Nat} (h : b < 2 ^ 1024) : blockOf (cellsN b) = b := by
  refine Nat.eq_of_testBit_eq fun i => ?_
  rw [Bool.eq_iff_iff, blockOf_bit]
  constructor
  · rintro ⟨x, m, e⟩
    obtain ⟨j, mj, ej⟩ := List.mem_map.mp m
    have : bitOf x = j := by
      rw [← ej]
      unfold bitOf at32
      dsimp only
      omega
    rw [← e, this]
    exact (mem_bitsB.mp mj).2
  · intro t
    have li : i < 1024 := by
      refine Nat.lt_of_not_le fun g => ?_
      rw [Nat.testBit_lt_two_pow (Nat.lt_of_lt_of_le h (Nat.pow_le_pow_right (by decide) g))] at t
      cases t
    refine ⟨at32 i, mem_cellsN.mpr ⟨li, t⟩, ?_⟩
    unfold bitOf at32
    dsimp only
    omega
theorem pop_zero {l b : Nat} (hl : l < 6) (h : Fit l b) : popN b = 0 ↔ b = 0 := by
  constructor
  · intro e
    rw [← cells_block (fit_lt hl h)]
    have : cellsN b = [] := by
      unfold cellsN
      rw [List.map_eq_nil_iff]
      exact List.eq_nil_of_length_eq_zero e
    rw [this]
    rfl
  · rintro rfl
    unfold popN
    rw [bits_zero]
    rfl
end
end My
namespace My
open PySem PySem.Spec PyProof.Rows L2 Vx
open TL
local macro_rules | `(tactic| k_invariant "new" ($n, $H:ident, $e:ident, $h:ident)) => `(tactic| (generalize hE : upd _ _ _ = $H; obtain ⟨$e:ident, $h:ident⟩ := gen_e hE $n; clear hE))
local macro_rules | `(tactic| k_places) => `(tactic| first
  | assumption
  | exact lst_of (by assumption)
  | exact tup_of (by assumption)
  | (refine getS (by assumption) ?_; k_places)
  | (refine Same.seq (by assumption) ?_; k_places)
  | (refine tupS (by assumption) ?_; k_places)
  | (refine lst_of ?_; k_places)
  | (refine tup_of ?_; k_places))
local macro_rules | `(tactic| k_subL) => `(tactic| first
  | k_places
  | solve_by_elim (maxDepth := 10) [getS, lst_of, tup_of, Same.seq, tupS])
local macro_rules | `(tactic| k_offL) => `(tactic| first
  | (show (0 : Int) < _; first | omega | decide)
  | (refine ⟨?_, ?_⟩ <;> first | omega | decide)
  | exact .inr ⟨by decide, by decide⟩
  | exact .inl ⟨by decide, by decide⟩
  | exact .inl ⟨by omega, by omega⟩
  | omega)
local macro_rules | `(tactic| k_clsL) => `(tactic| exact Nat.le_of_ble_eq_true rfl)
local macro_rules | `(tactic| k_upd) => `(tactic| simp only [L2.start, List.map_cons, List.map_nil, List.length_cons, List.length_nil, List.replicate_succ, List.replicate_zero, List.cons_append, List.nil_append, List.set_cons_zero, List.set_cons_succ])
section
variable {P : Program} {w : World} {K : PySem.W.Frag} {mg : Str → Option Value} {base : Heap}
def sp_full_block : Sp := fun vs H Q _ => ∃ l : Nat, l < 5 ∧ vs = [.int (l : Int)] ∧ Q (.int (fullN l : Nat)) H
theorem ok_full_block (T : Txt K mg) : FnOk P w K mg base CX0 1 T.f_full_block T.d_full_block ["level"] sp_full_block := by
  refine T.F_full_block.ok sc_full_block (fun vs H Q E h => ?_) (fun cdv A outer s H vs Q E hr h => ?_)
  · obtain ⟨_, _, rfl, _⟩ := h
    rfl
  · obtain ⟨l, hl, rfl, q⟩ := h
    refine ⟨_, (pss_cons (ps_set (i := 1) sc_full_block.nd rfl (.inl rfl) (pe_op op_shlNN pe_int (pv 0)))
      (pss_cons (ps_set (i := 2) sc_full_block.nd rfl (.inl rfl) (pe_op op_sub (pe_op op_shlNN pe_int (pv 1)) pe_int))
      (pss_cons (ps_set (i := 3) sc_full_block.nd rfl (.inl rfl) (pe_op op_fdivW (pe_op op_sub (pe_op op_shlNN pe_int (pe_op op_mul (pv 1) (pe_gcx (by rfl) T.c_SIDE))) pe_int) (pe_op op_sub (pe_op op_shlNN pe_int (pe_gcx (by rfl) T.c_SIDE)) pe_int)))
      (pss_one (ps_ret (pe_op op_mul (pv 2) (pv 3))))))), ?_⟩
    k_upd
    refine ⟨_, rfl, 1, l, 1, rfl, rfl, by decide, by omega, ?_⟩
    have h16 : 1 <<< l ≤ 16 := by
      rw [Nat.one_shiftLeft]
      exact pow_le16 hl
    have h64 : 1 <<< (1 <<< l) ≤ 65536 := by
      rw [Nat.one_shiftLeft (n := 1 <<< l)]
      exact Nat.le_trans (Nat.pow_le_pow_right (by decide) h16) (by decide)
    have fin : (((1 <<< (1 <<< l) : Nat) : Int) - (1 : Int)) * ((((1 <<< ((1 <<< l) * 32) : Nat) : Int) - (1 : Int)) / (((1 <<< 32 : Nat) : Int) - (1 : Int))) = ((fullN l : Nat) : Int) := by
      match l, hl with
      | 0, _ => decide +kernel
      | 1, _ => decide +kernel
      | 2, _ => decide +kernel
      | 3, _ => decide +kernel
      | 4, _ => decide +kernel
    k_upd
    refine ⟨_, rfl, 1, 1 <<< l, 1, rfl, rfl, by decide, by omega, _, _, rfl, rfl, ?_⟩
    k_upd
    refine ⟨_, rfl, _, _, rfl, rfl, .inr ⟨by decide, by decide⟩, 1, (1 <<< l) * 32, 1, rfl, by dsimp only; rw [Int.natCast_mul]; rfl, by decide, by omega, _, _, rfl, rfl, 1, 32, 1, rfl, rfl, by decide, by decide, _, _, rfl, rfl, _, _, rfl, rfl, ?_⟩
    have dv : CDivW ((((1 <<< ((1 <<< l) * 32) : Nat) : Int) - (1 : Int))) (((1 <<< 32 : Nat) : Int) - (1 : Int)) := ⟨by decide, by decide +kernel⟩
    have lo : (((1 <<< (1 <<< l) : Nat) : Int) - (1 : Int)) < 65536 := by
      have : (((1 <<< (1 <<< l) : Nat)) : Int) ≤ ((65536 : Nat) : Int) := Int.ofNat_le.mpr h64
      omega
    have lo2 : -65536 < (((1 <<< (1 <<< l) : Nat) : Int) - (1 : Int)) := by
      have : 0 ≤ (((1 <<< (1 <<< l) : Nat)) : Int) := Int.natCast_nonneg _
      omega
    refine ⟨dv, ?_⟩
    k_upd
    refine ⟨_, rfl, _, rfl, _, _, rfl, rfl, .inl ⟨Int.lt_trans (by decide) lo2, Int.lt_trans lo (by decide)⟩, ?_⟩
    dsimp only
    rw [fin]
    exact q
theorem tru0 {K : PySem.W.Frag} {H : Hp} {n : Nat} (h : n = 0) : TruV K (.int ((n : Nat) : Int)) H false := by
  subst h
  rfl
theorem tru1 {K : PySem.W.Frag} {H : Hp} {n : Nat} (h : n ≠ 0) : TruV K (.int ((n : Nat) : Int)) H true := by
  show true = (((n : Nat) : Int) != 0)
  have : ((n : Nat) : Int) ≠ 0 := by omega
  exact (bne_iff_ne.mpr this).symm
def sp_block_cells : Sp := fun vs H Q _ => ∃ b : Nat, b < 2 ^ 1024 ∧ vs = [.int (b : Int)] ∧ ∀ (H' : Hp) (p : Addr), H p = none → Same H H' → Cells H' p (cellsN b) → Q (.ref p) H'
theorem ok_block_cells (T : Txt K mg) : FnOk P w K mg base CX0 1 T.f_block_cells T.d_block_cells ["block"] sp_block_cells := by
  refine T.F_block_cells.ok sc_block_cells (fun vs H Q E h => ?_) (fun cdv A outer s H vs Q E hr h => ?_)
  · obtain ⟨_, _, rfl, _⟩ := h
    rfl
  · obtain ⟨b, hb, rfl, q⟩ := h
    refine ⟨_, (pss_cons (ps_set (i := 1) sc_block_cells.nd rfl (.inl rfl) (pe_lst pa_nil))
      (pss_cons (ps_while PassesOwn.never (pt_truth (pv 0) (by intro _; rfl))
      (pss_cons (ps_set (i := 2) sc_block_cells.nd rfl (.inl rfl) (pe_op op_and (pv 0) (pe_un un_neg (pv 0))))
      (pss_cons (ps_expr (pe_bm PySem.F.plainAttrs_list PySem.F.slot_list_append PySem.F.type_list_append mt_append (pv 1) (pa_cons (pe_callB call_divmod (by rfl) T.z_divmod (by decide +kernel) (pa_cons (pe_op op_sub (pe_bits (pv 2)) pe_int) (pa_cons (pe_gcx (by rfl) T.c_SIDE) pa_nil))) pa_nil)))
      (pss_one (ps_aug (i := 0) sc_block_cells.nd rfl (.inl rfl) (pv 2) ip_xorNN)))))
      (pss_one (ps_ret (pv 1))))), ?_⟩
    k_upd
    refine ⟨by k_clsL, fun cl nc => ?_⟩
    k_invariant "new" (nc, H1, e1, g1)
    k_upd
    unfold gName
    k_upd
    refine while_by (fun σ H' => Same H H' ∧ ∃ (R : Nat) (x2 : Option V), σ = [some (.int (R : Int)), some (.ref cl), x2] ∧ R < 2 ^ 1024 ∧
          ∃ us : List (Addr × Pr), H' cl = some (.lst (us.map fun t => V.ref t.1)) ∧ (∀ t ∈ us, H' t.1 = some (.tup [.int t.2.1, .int t.2.2])) ∧ us.map (·.2) ++ (bitsB 1024 R).map at32 = cellsN b)
        (fun σ _ => match σ with | [some (.int R), _, _] => (bitsB 1024 R.toNat).length | _ => 0)
        ⟨e1, b, _, rfl, hb, [], g1, fun _ m => (by cases m), rfl⟩ ?_ ?_
    · rintro σ H4 ⟨sm, R, x2, rfl, lR, us, hus, htu, eus⟩
      by_cases z : R = 0
      · refine ⟨_, rfl, _, tru0 z, iteF ?_⟩
        rw [z, bits_zero, List.map_nil, List.append_nil] at eus
        refine ⟨_, rfl, q H4 cl nc sm ⟨us, hus, htu, eus⟩⟩
      · obtain ⟨k, a, eR⟩ := low_bit R z
        subst eR
        refine ⟨_, rfl, _, tru1 z, iteT ?_⟩
        refine ⟨_, rfl, _, rfl, _, rfl, _, _, rfl, rfl, ?_⟩
        k_upd
        rw [low_and]
        have lu : us.length < sizeLine := by
          have s1 := cellsN_len b
          have s2 := bitsB_len 1024 b
          unfold popN at s1
          rw [← eus, List.length_append, List.length_map] at s1
          rw [sizeLine_eq]
          omega
        refine ⟨_, rfl, .inl ⟨rfl, _, lst_of hus⟩, _, rfl, _, rfl, ?_⟩
        rw [intBits_pow]
        refine ⟨_, _, rfl, rfl, _, _, rfl, ⟨by decide, by decide⟩, fun p5 n5 => ?_⟩
        dsimp only
        rw [show ((k + 1 : Nat) : Int) - 1 = (k : Int) by omega]
        k_invariant "new" (n5, H5, e5, g5)
        refine ⟨_, _, _, rfl, rfl, e5 _ _ hus, by rw [List.length_map]; exact lu, ?_⟩
        refine ⟨_, rfl, _, rfl, _, _, rfl, rfl, ?_⟩
        rw [low_xor]
        k_upd
        have off : ∀ (b : Addr) (o : HO), H5 b = some o → (∀ xs, o ≠ .lst xs) → upd H5 cl (.lst ((us.map fun t => V.ref t.1) ++ [.ref p5])) b = some o := fun b o e ne => by
          rw [upd_ne fun z => ?_]
          · exact e
          · rw [z, e5 _ _ hus] at e
            exact ne _ (Option.some.inj e).symm
        have low := bits_low (N := 1024) lR
        refine ⟨⟨mutS (sm.trans e5) nc, _, _, rfl, Nat.lt_of_le_of_lt ?_ lR, us ++ [(p5, at32 k)], ?_, fun t m => ?_, ?_⟩, ?_⟩
        · exact Nat.mul_le_mul_left _ (by omega)
        · rw [upd_same, List.map_append]
          rfl
        · rcases List.mem_append.mp m with m | m
          · exact off _ _ (e5 _ _ (htu t m)) (fun _ z => by cases z)
          · rw [List.mem_singleton.mp m]
            exact off _ _ g5 (fun _ z => by cases z)
        · rw [List.map_append, ← eus, low, List.map_cons, List.append_assoc]
          rfl
        · show (bitsB 1024 (((2 ^ k * (2 * a) : Nat) : Int)).toNat).length < (bitsB 1024 (((2 ^ k * (2 * a + 1) : Nat) : Int)).toNat).length
          rw [Int.toNat_natCast, Int.toNat_natCast, low, List.length_cons]
          exact Nat.lt_succ_self _
    · exact fun σ H Q Q' m h => h.elim fun v h => ⟨v, h.1, h.2.elim fun k h => ⟨k, h.1, m _ _ h.2⟩⟩
def sp_block_count : Sp := fun vs H Q _ => ∃ b : Nat, b < 2 ^ 1024 ∧ vs = [.int (b : Int)] ∧ Q (.int (popN b : Nat)) H
theorem ok_block_count (T : Txt K mg) : FnOk P w K mg base CX0 1 T.f_block_count T.d_block_count ["block"] sp_block_count := by
  refine T.F_block_count.ok sc_block_count (fun vs H Q E h => ?_) (fun cdv A outer s H vs Q E hr h => ?_)
  · obtain ⟨_, _, rfl, _⟩ := h
    rfl
  · obtain ⟨b, hb, rfl, q⟩ := h
    refine ⟨_, (pss_cons (ps_set (i := 1) sc_block_count.nd rfl (.inl rfl) (pe_joined1 (pe_fmtB (pv 0) (pe_joined1 pe_str))))
      (pss_one (ps_ret (pe_m1 PySem.F.slot_str_count PySem.F.type_str_count mt_count (pv 1) pe_str)))), ?_⟩
    k_upd
    refine ⟨_, rfl, b, rfl, binT_len hb (by decide), ?_⟩
    k_upd
    refine ⟨_, rfl, ⟨_, rfl⟩, _, _, rfl, rfl, ?_⟩
    rw [count_bin hb]
    exact q
end
end My
namespace My
open PySem PySem.Spec PyProof.Rows L2 Vx
open TL
local macro_rules | `(tactic| k_invariant "new" ($n, $H:ident, $e:ident, $h:ident)) => `(tactic| (generalize hE : upd _ _ _ = $H; obtain ⟨$e:ident, $h:ident⟩ := gen_e hE $n; clear hE))
local macro_rules | `(tactic| k_places) => `(tactic| first
  | assumption
  | exact lst_of (by assumption)
  | exact tup_of (by assumption)
  | (refine getS (by assumption) ?_; k_places)
  | (refine Same.seq (by assumption) ?_; k_places)
  | (refine tupS (by assumption) ?_; k_places)
  | (refine lst_of ?_; k_places)
  | (refine tup_of ?_; k_places))
local macro_rules | `(tactic| k_subL) => `(tactic| first
  | k_places
  | solve_by_elim (maxDepth := 10) [getS, lst_of, tup_of, Same.seq, tupS])
local macro_rules | `(tactic| k_offL) => `(tactic| first
  | (show (0 : Int) < _; first | omega | decide)
  | (refine ⟨?_, ?_⟩ <;> first | omega | decide)
  | exact .inr ⟨by decide, by decide⟩
  | exact .inl ⟨by decide, by decide⟩
  | exact .inl ⟨by omega, by omega⟩
  | omega)
local macro_rules | `(tactic| k_clsL) => `(tactic| exact Nat.le_of_ble_eq_true rfl)
local macro_rules | `(tactic| k_upd) => `(tactic| simp only [L2.start, List.map_cons, List.map_nil, List.length_cons, List.length_nil, List.replicate_succ, List.replicate_zero, List.cons_append, List.nil_append, List.set_cons_zero, List.set_cons_succ])
section
variable {P : Program} {w : World} {K : PySem.W.Frag} {mg : Str → Option Value} {base : Heap}
def bf (ru fl : Addr) : List (Str × V) := putF "_full" (.ref fl) (putF "_rule" (.ref ru) [])
def BlkAt (C : Addr) (H : Hp) (bo : Addr) : Prop :=
  ∃ dx ru fl, H bo = some (.ins C dx (bf ru fl)) ∧ H fl = some (.lst ((List.range 5).map fun l => .int (fullN l : Nat)))
theorem BlkAt.up {C : Addr} {H H' : Hp} {bo : Addr} (e : Same H H') (h : BlkAt C H bo) : BlkAt C H' bo := by
  obtain ⟨dx, ru, fl, h1, h3⟩ := h
  exact ⟨dx, ru, fl, e _ _ h1, e _ _ h3⟩
theorem range5_at {l : Nat} (h : l < 5) : ((List.range 5).map fun l => V.int (fullN l : Nat))[l]? = some (.int (fullN l : Nat)) := by
  match l, h with
  | 0, _ => rfl
  | 1, _ => rfl
  | 2, _ => rfl
  | 3, _ => rfl
  | 4, _ => rfl
def sp_Blocks_init (C : Addr) : Sp := fun vs H Q _ => ∃ (H0 : Hp) (bo ru dx : Addr), vs = [.ref bo, .ref ru] ∧ Same H0 H ∧ H0 bo = none ∧ H bo = some (.ins C dx []) ∧ ∀ H', Same H0 H' → BlkAt C H' bo → Q .non H'
theorem ok_Blocks_init (T : Txt K mg) : FnOk P w K mg base CX0 2 T.f_Blocks_init T.d_Blocks_init ["self", "rule"] (sp_Blocks_init T.C_Blocks) := by
  refine T.F_Blocks_init.ok sc_Blocks_init (fun vs H Q E h => ?_) (fun cdv A outer s H vs Q E hr h => ?_)
  · obtain ⟨_, _, _, _, rfl, _⟩ := h
    rfl
  · obtain ⟨H0, bo, ru, dx, rfl, s0, b0, hb, q⟩ := h
    refine ⟨_, (pss_cons (ps_fld (pv 0) (pv 1) rfl)
      (pss_one (ps_fld (pv 0) (pe_lc (own := [("level", 2)]) (g := gName 2) (tt := tYes) rfl sc_Blocks_init.nd (pi_range1 (by rfl) T.z_range (pa_cons (pe_gcx (by rfl) T.c_TOP) pa_nil)) (blkOk_by (own := [("level", 2)]) (N := N_Blocks_init) (sc := defScope s_Blocks_init) (by decide +kernel)) (fun _ _ _ _ _ => pg_name (i := 2) sc_Blocks_init.nd rfl (Or.inl rfl)) (fun _ _ _ _ _ => pts_nil) (fun _ _ _ _ _ => (pe_call (ok_full_block T) (hr.mono (by decide)) (by rfl) T.g_full_block T.F_full_block.kp T.b_full_block .nil pass0 (pa_cons (pv 2) pa_nil)))) rfl))), ?_⟩
    k_upd
    refine ⟨_, rfl, _, rfl, bo, T.C_Blocks, dx, [], rfl, hb, T.cl_Blocks, T.na_Blocks__rule, (by show 0 < 1000; decide), ?_⟩
    have s1 : Same H0 (upd H bo (.ins T.C_Blocks dx (putF "_rule" (.ref ru) []))) := mutS s0 b0
    have g1 : upd H bo (.ins T.C_Blocks dx (putF "_rule" (.ref ru) [])) bo = some (.ins T.C_Blocks dx (putF "_rule" (.ref ru) [])) := upd_same
    generalize upd H bo (.ins T.C_Blocks dx (putF "_rule" (.ref ru) [])) = H1 at s1 g1
    refine ⟨5, rfl, by decide, by decide, fun p np => ?_⟩
    refine lc_range (lo := 0) (n := 5) (fun i H' => Same H1 H' ∧ H' p = some (.lst ((List.range i).map fun l => .int (fullN l : Nat))))
      ⟨newS np, upd_same⟩ ?_ ?_
    · rintro i H' hi ⟨sm, hp⟩
      refine ⟨rfl, _, rfl, i, hi, ?_, _, hp, ?_, mutS sm np, ?_⟩
      · rw [Int.zero_add]
        rfl
      · rw [List.length_map, List.length_range, sizeLine_eq]
        omega
      · rw [upd_same, List.range_succ, List.map_append]
        rfl
    · rintro H' ⟨sm, hp⟩
      have gb : H' bo = some (.ins T.C_Blocks dx (putF "_rule" (.ref ru) [])) := sm _ _ g1
      refine ⟨_, rfl, bo, T.C_Blocks, dx, _, rfl, gb, T.cl_Blocks, T.na_Blocks__full, (by show 1 < 1000; decide), ?_⟩
      refine q _ (mutS (s1.trans sm) b0) ⟨dx, ru, p, upd_same, ?_⟩
      rw [upd_ne fun e => ?_]
      · exact hp
      · rw [e, gb] at hp
        cases hp
/-! ### what lies outside of some addresses -/
def hide (M : List Addr) (H : Hp) : Hp := fun b => if b ∈ M then none else H b
theorem hide_in {M : List Addr} {H : Hp} {b : Addr} (h : b ∈ M) : hide M H b = none := if_pos h
theorem hide_out {M : List Addr} {H : Hp} {b : Addr} (h : b ∉ M) : hide M H b = H b := if_neg h
theorem hide_le {M : List Addr} {H : Hp} : Same (hide M H) H := fun b o e => by
  by_cases h : b ∈ M
  · rw [hide_in h] at e
    cases e
  · rwa [hide_out h] at e
theorem hide_up {M : List Addr} {H H' : Hp} (e : Same H H') : Same (hide M H) (hide M H') := fun b o h => by
  by_cases c : b ∈ M
  · rw [hide_in c] at h
    cases h
  · rw [hide_out c] at h ⊢
    exact e _ _ h
theorem hide_upd {M : List Addr} {H : Hp} {b : Addr} {o : HO} (h : b ∈ M) : hide M (upd H b o) = hide M H := funext fun a => by
  by_cases c : a ∈ M
  · rw [hide_in c, hide_in c]
  · rw [hide_out c, hide_out c, upd_ne fun e => c (by rw [e]; exact h)]
theorem hide_updO {M : List Addr} {H : Hp} {b : Addr} {o : HO} (h : b ∉ M) : hide M (upd H b o) = upd (hide M H) b o := funext fun a => by
  by_cases c : a = b
  · subst c
    rw [hide_out h, upd_same, upd_same]
  · rw [upd_ne c]
    by_cases d : a ∈ M
    · rw [hide_in d, hide_in d]
    · rw [hide_out d, hide_out d, upd_ne c]
/-! ### places in a list -/
theorem idx_ne {x y : Pr} {l : List Pr} (e : y ≠ x) : (y :: l).idxOf x = l.idxOf x + 1 := by
  rw [List.idxOf_cons, beq_false_of_ne e]
  rfl
theorem idx_mem {x : Pr} : ∀ {l : List Pr}, x ∈ l → l[l.idxOf x]? = some x
  | [], h => by cases h
  | y :: l, h => by
    by_cases e : y = x
    · subst e
      rw [List.idxOf_cons_self]
      rfl
    · have m : x ∈ l := (List.mem_cons.mp h).elim (fun z => absurd z.symm e) id
      rw [idx_ne e]
      exact idx_mem m
theorem idx_app {x : Pr} {m : List Pr} : ∀ {l : List Pr}, x ∈ l → (l ++ m).idxOf x = l.idxOf x
  | [], h => by cases h
  | y :: l, h => by
    by_cases e : y = x
    · subst e
      rw [List.cons_append, List.idxOf_cons_self, List.idxOf_cons_self]
    · have h : x ∈ l := (List.mem_cons.mp h).elim (fun z => absurd z.symm e) id
      rw [List.cons_append, idx_ne e, idx_ne e, idx_app h]
theorem idx_new {x : Pr} : ∀ {l : List Pr}, x ∉ l → (l ++ [x]).idxOf x = l.length
  | [], h => by
    rw [List.nil_append, List.idxOf_cons_self]
    rfl
  | y :: l, h => by
    have e : y ≠ x := fun e => h (e ▸ List.mem_cons_self)
    rw [List.cons_append, idx_ne (l := l ++ [x]) e, idx_new fun m => h (List.mem_cons_of_mem _ m)]
    rfl
theorem get_inj {l : List Pr} (nd : l.Nodup) {m n : Nat} {x : Pr} (h1 : l[m]? = some x) (h2 : l[n]? = some x) : m = n := by
  obtain ⟨a, ea⟩ := List.getElem?_eq_some_iff.mp h1
  obtain ⟨b, eb⟩ := List.getElem?_eq_some_iff.mp h2
  exact (List.getElem_inj nd (h₀ := a) (h₁ := b)).mp (ea.trans eb.symm)
theorem get_idx {l : List Pr} (nd : l.Nodup) {n : Nat} {x : Pr} (h : l[n]? = some x) : l.idxOf x = n := get_inj nd (idx_mem (List.mem_of_getElem? h)) h
theorem pre_get {l m : List Pr} (h : l <+: m) {n : Nat} {x : Pr} (e : l[n]? = some x) : m[n]? = some x := by
  obtain ⟨r, rfl⟩ := h
  rw [List.getElem?_append_left (List.getElem?_eq_some_iff.mp e).1]
  exact e
/-! ### the store -/
def sf (ru bo la ca ba pa sm lg em fu : Addr) : List (Str × V) := putF "_futures" (.ref fu) (putF "_empty" (.ref em) (putF "_large" (.ref lg) (putF "_small" (.ref sm) (putF "_parts" (.ref pa) (putF "_bits" (.ref ba) (putF "_counts" (.ref ca) (putF "_levels" (.ref la) (putF "_blocks" (.ref bo) (putF "_rule" (.ref ru) [])))))))))
structure SA where
  st : Addr
  bo : Addr
  la : Addr
  ca : Addr
  ba : Addr
  pa : Addr
  sm : Addr
  em : Addr
def SA.M (A : SA) : List Addr := [A.la, A.ca, A.ba, A.pa, A.sm, A.em]
def lvL (sq : List Pr) : List V := sq.map fun x => .int x.1
def ctL (sq : List Pr) : List V := sq.map fun x => .int (popN x.2.toNat : Nat)
def btL (sq : List Pr) : List V := sq.map fun x => .int x.2
def emL (sq : List Pr) (es : Nat) : List V := (List.range es).map fun (i : Nat) => .int (sq.idxOf ((i : Int), (0 : Int)) : Nat)
def ixG (sq : List Pr) : Pr → V := fun x => .int (sq.idxOf x : Nat)
structure StoreIs (C CB : Addr) (H : Hp) (A : SA) (sq : List Pr) (es : Nat) : Prop where
  obj : ∃ dx ru lg fu, H A.st = some (.ins C dx (sf ru A.bo A.la A.ca A.ba A.pa A.sm lg A.em fu))
  blk : BlkAt CB (hide A.M H) A.bo
  lv : H A.la = some (.lst (lvL sq))
  ct : H A.ca = some (.lst (ctL sq))
  bt : H A.ba = some (.lst (btL sq))
  pt : ∃ us : List V, H A.pa = some (.lst us) ∧ us.length = sq.length
  dc : Dct H A.sm sq (ixG sq)
  em : H A.em = some (.lst (emL sq es))
  ems : ∀ i < es, ((i : Int), (0 : Int)) ∈ sq
  nd : (A.st :: A.M).Nodup
  fit : ∀ x ∈ sq, ∃ l b : Nat, x = ((l : Int), (b : Int)) ∧ l < 6 ∧ Fit l b
theorem StoreIs.up {C CB : Addr} {H H' : Hp} {A : SA} {sq : List Pr} {es : Nat} (e : Same H H') (h : StoreIs C CB H A sq es) : StoreIs C CB H' A sq es := by
  obtain ⟨⟨dx, ru, lg, fu, h1⟩, h2, h3, h4, h5, ⟨us, h6, h7⟩, h8, h9, h10, h11, h12⟩ := h
  exact ⟨⟨dx, ru, lg, fu, e _ _ h1⟩, h2.up (hide_up e), e _ _ h3, e _ _ h4, e _ _ h5, ⟨us, e _ _ h6, h7⟩, h8.up e, e _ _ h9, h10, h11, h12⟩
theorem StoreIs.nodup {C CB : Addr} {H : Hp} {A : SA} {sq : List Pr} {es : Nat} (h : StoreIs C CB H A sq es) : sq.Nodup := by
  obtain ⟨kvs, _, h⟩ := h.dc
  exact h.2
theorem StoreIs.off {C CB : Addr} {H : Hp} {A : SA} {sq : List Pr} {es : Nat} {p : Addr} (h : StoreIs C CB H A sq es) (n : H p = none) : p ∉ A.M := fun m => by
  obtain ⟨us, h6, _⟩ := h.pt
  obtain ⟨kvs, h8, _⟩ := h.dc
  have no : ∀ {b : Addr} {o : HO}, H b = some o → p ≠ b := fun e z => by rw [z, e] at n; cases n
  simp only [SA.M, List.mem_cons, List.not_mem_nil, or_false] at m
  rcases m with z | z | z | z | z | z
  · exact no h.lv z
  · exact no h.ct z
  · exact no h.bt z
  · exact no h6 z
  · exact no h8 z
  · exact no h.em z
/-- the store grows by at most k squares -/
structure Gr (C CB : Addr) (A : SA) (k : Nat) (H : Hp) (sq : List Pr) (es : Nat) (H' : Hp) (sq' : List Pr) (es' : Nat) : Prop where
  fr : Same (hide A.M H) (hide A.M H')
  st : StoreIs C CB H' A sq' es'
  pre : sq <+: sq'
  len : sq'.length ≤ sq.length + k
  ge : es ≤ es'
theorem Gr.refl {C CB : Addr} {A : SA} {H : Hp} {sq : List Pr} {es : Nat} (k : Nat) (h : StoreIs C CB H A sq es) : Gr C CB A k H sq es H sq es := ⟨fun _ _ e => e, h, List.prefix_rfl, Nat.le_add_right _ _, Nat.le_refl _⟩
theorem Gr.trans {C CB : Addr} {A : SA} {k k' : Nat} {H H' H'' : Hp} {sq sq' sq'' : List Pr} {es es' es'' : Nat} (h : Gr C CB A k H sq es H' sq' es') (h' : Gr C CB A k' H' sq' es' H'' sq'' es'') : Gr C CB A (k + k') H sq es H'' sq'' es'' :=
  ⟨h.fr.trans h'.fr, h'.st, h.pre.trans h'.pre, by have := h.len; have := h'.len; omega, Nat.le_trans h.ge h'.ge⟩
theorem Gr.more {C CB : Addr} {A : SA} {k k' : Nat} {H H' : Hp} {sq sq' : List Pr} {es es' : Nat} (h : Gr C CB A k H sq es H' sq' es') (l : k ≤ k') : Gr C CB A k' H sq es H' sq' es' :=
  ⟨h.fr, h.st, h.pre, by have := h.len; omega, h.ge⟩
theorem Gr.same {C CB : Addr} {A : SA} {k : Nat} {H H' H'' : Hp} {sq sq' : List Pr} {es es' : Nat} (h : Gr C CB A k H sq es H' sq' es') (e : Same H' H'') : Gr C CB A k H sq es H'' sq' es' :=
  ⟨h.fr.trans (hide_up e), h.st.up e, h.pre, h.len, h.ge⟩
theorem Gr.of_same {C CB : Addr} {A : SA} {k : Nat} {H0 H H' : Hp} {sq sq' : List Pr} {es es' : Nat} (e : Same H0 H) (h : Gr C CB A k H sq es H' sq' es') : Gr C CB A k H0 sq es H' sq' es' :=
  ⟨(hide_up e).trans h.fr, h.st, h.pre, h.len, h.ge⟩
end
end My
namespace My
open PySem PySem.Spec PyProof.Rows L2 Vx
open TL
local macro_rules | `(tactic| k_invariant "new" ($n, $H:ident, $e:ident, $h:ident)) => `(tactic| (generalize hE : upd _ _ _ = $H; obtain ⟨$e:ident, $h:ident⟩ := gen_e hE $n; clear hE))
local macro_rules | `(tactic| k_places) => `(tactic| first
  | assumption
  | exact lst_of (by assumption)
  | exact tup_of (by assumption)
  | (refine getS (by assumption) ?_; k_places)
  | (refine Same.seq (by assumption) ?_; k_places)
  | (refine tupS (by assumption) ?_; k_places)
  | (refine lst_of ?_; k_places)
  | (refine tup_of ?_; k_places))
local macro_rules | `(tactic| k_subL) => `(tactic| first
  | k_places
  | solve_by_elim (maxDepth := 10) [getS, lst_of, tup_of, Same.seq, tupS])
local macro_rules | `(tactic| k_offL) => `(tactic| first
  | (show (0 : Int) < _; first | omega | decide)
  | (refine ⟨?_, ?_⟩ <;> first | omega | decide)
  | exact .inr ⟨by decide, by decide⟩
  | exact .inl ⟨by decide, by decide⟩
  | exact .inl ⟨by omega, by omega⟩
  | omega)
local macro_rules | `(tactic| k_clsL) => `(tactic| exact Nat.le_of_ble_eq_true rfl)
local macro_rules | `(tactic| k_upd) => `(tactic| simp only [L2.start, List.map_cons, List.map_nil, List.length_cons, List.length_nil, List.replicate_succ, List.replicate_zero, List.cons_append, List.nil_append, List.set_cons_zero, List.set_cons_succ])
section
variable {P : Program} {w : World} {K : PySem.W.Frag} {mg : Str → Option Value} {base : Heap}
def sp_new_square (C : Addr) : Sp := fun vs H Q _ => ∃ (A : SA) (ls cs bs us : List V) (l c b : Int) (v : V), vs = [.ref A.st, .int l, .int c, .int b, v] ∧
  (∃ dx ru lg fu, H A.st = some (.ins C dx (sf ru A.bo A.la A.ca A.ba A.pa A.sm lg A.em fu))) ∧ H A.la = some (.lst ls) ∧ H A.ca = some (.lst cs) ∧ H A.ba = some (.lst bs) ∧ H A.pa = some (.lst us) ∧
  (A.st :: A.M).Nodup ∧ ls.length < 10000 ∧ cs.length < 10000 ∧ bs.length < 10000 ∧ us.length < 10000 ∧
  Q (.int (ls.length : Nat)) (upd (upd (upd (upd H A.la (.lst (ls ++ [.int l]))) A.ca (.lst (cs ++ [.int c]))) A.ba (.lst (bs ++ [.int b]))) A.pa (.lst (us ++ [v])))
theorem ok_Store_new_square (T : Txt K mg) : FnOk P w K mg base CX0 1 T.f_Store_new_square T.d_Store_new_square ["self", "level", "count", "block", "parts"] (sp_new_square T.C_Store) := by
  refine T.F_Store_new_square.ok sc_Store_new_square (fun vs H Q E h => ?_) (fun cdv A outer s H vs Q E hr h => ?_)
  · obtain ⟨_, _, _, _, _, _, _, _, _, rfl, _⟩ := h
    rfl
  · obtain ⟨S, ls, cs, bs, us, l, c, b, v, rfl, ⟨dx, ru, lg, fu, ho⟩, h1, h2, h3, h4, nd, l1, l2, l3, l4, q⟩ := h
    refine ⟨_, (pss_cons (ps_expr (pe_bm PySem.F.plainAttrs_list PySem.F.slot_list_append PySem.F.type_list_append mt_append (pe_fld (pv 0) rfl) (pa_cons (pv 1) pa_nil)))
      (pss_cons (ps_expr (pe_bm PySem.F.plainAttrs_list PySem.F.slot_list_append PySem.F.type_list_append mt_append (pe_fld (pv 0) rfl) (pa_cons (pv 2) pa_nil)))
      (pss_cons (ps_expr (pe_bm PySem.F.plainAttrs_list PySem.F.slot_list_append PySem.F.type_list_append mt_append (pe_fld (pv 0) rfl) (pa_cons (pv 3) pa_nil)))
      (pss_cons (ps_expr (pe_bm PySem.F.plainAttrs_list PySem.F.slot_list_append PySem.F.type_list_append mt_append (pe_fld (pv 0) rfl) (pa_cons (pv 4) pa_nil)))
      (pss_one (ps_ret (pe_op op_sub (pe_callB call_lenL (by rfl) T.z_len (by decide +kernel) (pa_cons (pe_fld (pv 0) rfl) pa_nil)) pe_int))))))), ?_⟩
    k_upd
    have ne : ∀ {x y : Addr}, x ≠ y → y ≠ x := fun h => h.symm
    simp only [SA.M, List.nodup_cons, List.mem_cons, List.not_mem_nil, or_false, not_or] at nd
    obtain ⟨⟨n1, n2, n3, n4, n5, n6⟩, ⟨m1, m2, m3, m4, m5⟩, ⟨o1, o2, o3, o4⟩, ⟨p1, p2, p3⟩, ⟨q1, q2⟩, r1, _⟩ := nd
    refine ⟨_, rfl, S.st, _, _, _, _, rfl, ho, T.cl_Store, T.na_Store__levels, rfl, .inl ⟨rfl, _, lst_of h1⟩, _, rfl, _, _, _, rfl, rfl, h1, by rw [sizeLine_eq]; omega, ?_⟩
    have ho1 : upd H S.la (.lst (ls ++ [.int l])) S.st = some (.ins T.C_Store dx (sf ru S.bo S.la S.ca S.ba S.pa S.sm lg S.em fu)) := by rw [upd_ne n1]; exact ho
    have k2 : upd H S.la (.lst (ls ++ [.int l])) S.ca = some (.lst cs) := by rw [upd_ne (ne m1)]; exact h2
    have k3 : upd H S.la (.lst (ls ++ [.int l])) S.ba = some (.lst bs) := by rw [upd_ne (ne m2)]; exact h3
    have k4 : upd H S.la (.lst (ls ++ [.int l])) S.pa = some (.lst us) := by rw [upd_ne (ne m3)]; exact h4
    have k1 : upd H S.la (.lst (ls ++ [.int l])) S.la = some (.lst (ls ++ [.int l])) := upd_same
    obtain ⟨H1, e1⟩ : ∃ H1, H1 = upd H S.la (.lst (ls ++ [.int l])) := ⟨_, rfl⟩
    rw [← e1] at ho1 k1 k2 k3 k4 q ⊢
    refine ⟨_, rfl, S.st, _, _, _, _, rfl, ho1, T.cl_Store, T.na_Store__counts, rfl, .inl ⟨rfl, _, lst_of k2⟩, _, rfl, _, _, _, rfl, rfl, k2, by rw [sizeLine_eq]; omega, ?_⟩
    have ho2 : upd H1 S.ca (.lst (cs ++ [.int c])) S.st = some (.ins T.C_Store dx (sf ru S.bo S.la S.ca S.ba S.pa S.sm lg S.em fu)) := by rw [upd_ne n2]; exact ho1
    have j1 : upd H1 S.ca (.lst (cs ++ [.int c])) S.la = some (.lst (ls ++ [.int l])) := by rw [upd_ne m1]; exact k1
    have j3 : upd H1 S.ca (.lst (cs ++ [.int c])) S.ba = some (.lst bs) := by rw [upd_ne (ne o1)]; exact k3
    have j4 : upd H1 S.ca (.lst (cs ++ [.int c])) S.pa = some (.lst us) := by rw [upd_ne (ne o2)]; exact k4
    obtain ⟨H2, e2⟩ : ∃ H2, H2 = upd H1 S.ca (.lst (cs ++ [.int c])) := ⟨_, rfl⟩
    rw [← e2] at ho2 j1 j3 j4 q ⊢
    refine ⟨_, rfl, S.st, _, _, _, _, rfl, ho2, T.cl_Store, T.na_Store__bits, rfl, .inl ⟨rfl, _, lst_of j3⟩, _, rfl, _, _, _, rfl, rfl, j3, by rw [sizeLine_eq]; omega, ?_⟩
    have ho3 : upd H2 S.ba (.lst (bs ++ [.int b])) S.st = some (.ins T.C_Store dx (sf ru S.bo S.la S.ca S.ba S.pa S.sm lg S.em fu)) := by rw [upd_ne n3]; exact ho2
    have i1 : upd H2 S.ba (.lst (bs ++ [.int b])) S.la = some (.lst (ls ++ [.int l])) := by rw [upd_ne m2]; exact j1
    have i4 : upd H2 S.ba (.lst (bs ++ [.int b])) S.pa = some (.lst us) := by rw [upd_ne (ne p1)]; exact j4
    obtain ⟨H3, e3⟩ : ∃ H3, H3 = upd H2 S.ba (.lst (bs ++ [.int b])) := ⟨_, rfl⟩
    rw [← e3] at ho3 i1 i4 q ⊢
    refine ⟨_, rfl, S.st, _, _, _, _, rfl, ho3, T.cl_Store, T.na_Store__parts, rfl, .inl ⟨rfl, _, lst_of i4⟩, _, rfl, _, _, _, rfl, rfl, i4, by rw [sizeLine_eq]; omega, ?_⟩
    have ho4 : upd H3 S.pa (.lst (us ++ [v])) S.st = some (.ins T.C_Store dx (sf ru S.bo S.la S.ca S.ba S.pa S.sm lg S.em fu)) := by rw [upd_ne n4]; exact ho3
    have f1 : upd H3 S.pa (.lst (us ++ [v])) S.la = some (.lst (ls ++ [.int l])) := by rw [upd_ne m3]; exact i1
    obtain ⟨H4, e4⟩ : ∃ H4, H4 = upd H3 S.pa (.lst (us ++ [v])) := ⟨_, rfl⟩
    rw [← e4] at ho4 f1 q ⊢
    refine ⟨_, rfl, S.st, _, _, _, _, rfl, ho4, T.cl_Store, T.na_Store__levels, rfl, _, _, rfl, lst_of f1, _, _, rfl, rfl, ?_⟩
    dsimp only
    rw [List.length_append, List.length_singleton, show ((ls.length + 1 : Nat) : Int) - 1 = ((ls.length : Nat) : Int) by omega]
    exact q
/-- a square more -/
theorem StoreIs.grow {C CB : Addr} {H H' : Hp} {A : SA} {sq : List Pr} {es : Nat} {l b : Nat} {us : List V} {v : V} {kvs : List (List L2.Key × V)} (h : StoreIs C CB H A sq es) (n : ((l : Int), (b : Int)) ∉ sq) (hl : l < 6) (hf : Fit l b)
    (h1 : ∀ a, a ∉ A.M → H' a = H a) (g1 : H' A.la = some (.lst (lvL sq ++ [.int (l : Int)]))) (g2 : H' A.ca = some (.lst (ctL sq ++ [.int (popN b : Nat)]))) (g3 : H' A.ba = some (.lst (btL sq ++ [.int (b : Int)]))) (g4 : H' A.pa = some (.lst (us ++ [v]))) (lu : us.length = sq.length)
    (g5 : Dct H' A.sm (addK sq ((l : Int), (b : Int))) (setG (ixG sq) ((l : Int), (b : Int)) (.int (sq.length : Nat)))) (g6 : H' A.em = H A.em) : StoreIs C CB H' A (sq ++ [((l : Int), (b : Int))]) es := by
  have out : A.st ∉ A.M := (List.nodup_cons.mp h.nd).1
  obtain ⟨dx, ru, lg, fu, ho⟩ := h.obj
  have same : Same (hide A.M H) (hide A.M H') := fun a o e => by
    by_cases c : a ∈ A.M
    · rw [hide_in c] at e
      cases e
    · rw [hide_out c] at e ⊢
      rw [h1 a c]
      exact e
  rw [addK_new n] at g5
  refine ⟨⟨dx, ru, lg, fu, by rw [h1 _ out]; exact ho⟩, h.blk.up same, ?_, ?_, ?_, ⟨us ++ [v], g4, by rw [List.length_append, List.length_append, lu]; rfl⟩, g5.congr fun x m => ?_, ?_, fun i hi => List.mem_append.mpr (.inl (h.ems i hi)), h.nd, fun x m => ?_⟩
  · rw [g1]
    unfold lvL
    rw [List.map_append]
    rfl
  · rw [g2]
    unfold ctL
    rw [List.map_append]
    rfl
  · rw [g3]
    unfold btL
    rw [List.map_append]
    rfl
  · unfold setG ixG
    by_cases e : x = ((l : Int), (b : Int))
    · rw [if_pos e, e, idx_new n]
    · rw [if_neg e, idx_app ((List.mem_append.mp m).elim id fun z => absurd (List.mem_singleton.mp z) e)]
  · rw [g6, h.em]
    congr 2
    unfold emL
    refine List.map_congr_left fun i m => ?_
    rw [idx_app (h.ems i (List.mem_range.mp m))]
  · rcases List.mem_append.mp m with m | m
    · exact h.fit x m
    · exact ⟨l, b, List.mem_singleton.mp m, hl, hf⟩
theorem upd4 {H : Hp} {S : SA} {ls cs bs us : List V} {C CB : Addr} {sq : List Pr} {es : Nat} (h : StoreIs C CB H S sq es) {H3 : Hp} (e : H3 = upd (upd (upd (upd H S.la (.lst ls)) S.ca (.lst cs)) S.ba (.lst bs)) S.pa (.lst us)) :
    (∀ a, a ∉ S.M → H3 a = H a) ∧ H3 S.la = some (.lst ls) ∧ H3 S.ca = some (.lst cs) ∧ H3 S.ba = some (.lst bs) ∧ H3 S.pa = some (.lst us) ∧ H3 S.sm = H S.sm ∧ H3 S.em = H S.em ∧ S.sm ∈ S.M ∧ S.em ≠ S.sm ∧ S.la ≠ S.sm ∧ S.ca ≠ S.sm ∧ S.ba ≠ S.sm ∧ S.pa ≠ S.sm := by
  have nd := h.nd
  have ne : ∀ {x y : Addr}, x ≠ y → y ≠ x := fun h => h.symm
  simp only [SA.M, List.nodup_cons, List.mem_cons, List.not_mem_nil, or_false, not_or] at nd
  obtain ⟨⟨n1, n2, n3, n4, n5, n6⟩, ⟨m1, m2, m3, m4, m5⟩, ⟨o1, o2, o3, o4⟩, ⟨p1, p2, p3⟩, ⟨q1, q2⟩, r1, _⟩ := nd
  subst e
  refine ⟨fun a c => ?_, ?_, ?_, ?_, ?_, ?_, ?_, ?_, ne r1, m4, o3, p2, q1⟩
  · simp only [SA.M, List.mem_cons, List.not_mem_nil, or_false, not_or] at c
    obtain ⟨c1, c2, c3, c4, _, _⟩ := c
    rw [upd_ne c4, upd_ne c3, upd_ne c2, upd_ne c1]
  · rw [upd_ne m3, upd_ne m2, upd_ne m1, upd_same]
  · rw [upd_ne o2, upd_ne o1, upd_same]
  · rw [upd_ne p1, upd_same]
  · rw [upd_same]
  · rw [upd_ne (ne q1), upd_ne (ne p2), upd_ne (ne o3), upd_ne (ne m4)]
  · rw [upd_ne (ne q2), upd_ne (ne p3), upd_ne (ne o4), upd_ne (ne m5)]
  · simp only [SA.M, List.mem_cons, true_or, or_true]
def sp_small (C CB : Addr) : Sp := fun vs H Q _ => ∃ (A : SA) (sq : List Pr) (es l b : Nat), vs = [.ref A.st, .int (l : Int), .int (b : Int)] ∧ StoreIs C CB H A sq es ∧ l < 6 ∧ Fit l b ∧ sq.length < 9000 ∧
  ∀ (H' : Hp) (sq' : List Pr) (n : Nat), Gr C CB A 1 H sq es H' sq' es → sq'[n]? = some ((l : Int), (b : Int)) → Q (.int (n : Int)) H'
theorem ok_Store_small (T : Txt K mg) : FnOk P w K mg base CX0 2 T.f_Store_small T.d_Store_small ["self", "level", "block"] (sp_small T.C_Store T.C_Blocks) := by
  refine T.F_Store_small.ok sc_Store_small (fun vs H Q E h => ?_) (fun cdv A outer s H vs Q E hr h => ?_)
  · obtain ⟨_, _, _, _, _, rfl, _⟩ := h
    rfl
  · obtain ⟨S, sq, es, l, b, rfl, hS, hl, hf, few, q⟩ := h
    have hu : (A.deeper (envOfC (Str.ofString "Store.small") (defScope s_Store_small) s.heap.objs.size T.f_Store_small cdv)).units + 1 < cLine := by
      have := hr.units
      omega
    refine ⟨_, (pss_cons (ps_set (i := 3) sc_Store_small.nd rfl (.inl rfl) (pe_tup (pa_cons (pv 1) (pa_cons (pv 2) pa_nil))))
      (pss_cons (ps_if (pt_cmp (pc_dnotin hu (pv 3) (pe_fld (pv 0) rfl)))
      (pss_one (ps_dput hu (pe_fld (pv 0) rfl) (pv 3) (pe_meth (pv 0) T.cl_Store T.m_Store_new_square (ok_Store_new_square T) (hr.mono (by decide)) T.b_Store_new_square .nil pass0 (pa_cons (pv 1) (pa_cons (pe_call (ok_block_count T) (hr.mono (by decide)) (by rfl) T.g_block_count T.F_block_count.kp T.b_block_count .nil pass0 (pa_cons (pv 2) pa_nil)) (pa_cons (pv 2) (pa_cons (pe_tup pa_nil) pa_nil))))) rfl))
      pss_nil)
      (pss_one (ps_ret (pe_dget hu (pe_fld (pv 0) rfl) (pv 3) (fun _ _ => rfl)))))), ?_⟩
    k_upd
    refine ⟨_, rfl, _, rfl, by k_clsL, fun kp nk => ?_⟩
    k_invariant "new" (nk, H1, e1, g1)
    k_upd
    have hS1 := hS.up e1
    obtain ⟨dx, ru, lg, fu, ho⟩ := hS1.obj
    by_cases m : ((l : Int), (b : Int)) ∈ sq
    · have dg := hS1.dc.dget (x := ((l : Int), (b : Int))) g1
      rw [if_pos m] at dg
      refine ⟨_, rfl, _, rfl, S.st, _, _, _, _, rfl, ho, T.cl_Store, T.na_Store__small, rfl, ?_⟩
      refine ⟨_, _, rfl, dg, false, rfl, iteF ?_⟩
      k_upd
      refine ⟨_, rfl, S.st, _, _, _, _, rfl, ho, T.cl_Store, T.na_Store__small, rfl, _, rfl, S.sm, _, rfl, dg, ?_⟩
      exact q H1 sq _ ((Gr.refl 1 hS).same e1) (idx_mem m)
    · have dg := hS1.dc.dget (x := ((l : Int), (b : Int))) g1
      rw [if_neg m] at dg
      refine ⟨_, rfl, _, rfl, S.st, _, _, _, _, rfl, ho, T.cl_Store, T.na_Store__small, rfl, ?_⟩
      refine ⟨_, _, rfl, dg, true, rfl, iteT ?_⟩
      k_upd
      obtain ⟨us, gp, lus⟩ := hS1.pt
      refine ⟨_, rfl, S.st, _, _, rfl, ho, rfl, _, rfl, _, rfl, b, fit_lt hl hf, rfl, _, rfl, by k_clsL, fun ep nep => ?_⟩
      k_invariant "new" (nep, H2, e2, g2)
      have hS2 := hS1.up e2
      obtain ⟨dx, ru, lg, fu, ho2⟩ := hS2.obj
      refine ⟨S, lvL sq, ctL sq, btL sq, us, l, (popN b : Nat), b, .ref ep, rfl, ⟨dx, ru, lg, fu, ho2⟩, hS2.lv, hS2.ct, hS2.bt, e2 _ _ gp, hS2.nd, ?_, ?_, ?_, by omega, ?_⟩
      · unfold lvL
        rw [List.length_map]
        omega
      · unfold ctL
        rw [List.length_map]
        omega
      · unfold btL
        rw [List.length_map]
        omega
      obtain ⟨H3, e3⟩ : ∃ H3, H3 = upd (upd (upd (upd H2 S.la (.lst (lvL sq ++ [.int (l : Int)]))) S.ca (.lst (ctL sq ++ [.int (popN b : Nat)]))) S.ba (.lst (btL sq ++ [.int (b : Int)]))) S.pa (.lst (us ++ [.ref ep])) := ⟨_, rfl⟩
      rw [← e3]
      obtain ⟨same, i1, i2, i3, i4, i5, i6, inM, z1, z2, z3, z4, z5⟩ := upd4 hS2 e3
      have kM : kp ∉ S.M := hS.off nk
      have g3 : H3 kp = some (.tup [.int (l : Int), .int (b : Int)]) := by rw [same _ kM]; exact e2 _ _ g1
      have stM : S.st ∉ S.M := (List.nodup_cons.mp hS.nd).1
      have ho3 : H3 S.st = some (.ins T.C_Store dx (sf ru S.bo S.la S.ca S.ba S.pa S.sm lg S.em fu)) := by rw [same _ stM]; exact ho2
      have dc3 : Dct H3 S.sm sq (ixG sq) := by
        obtain ⟨kvs, a1, a2⟩ := hS2.dc
        exact ⟨kvs, by rw [i5]; exact a1, a2⟩
      obtain ⟨H4, dp, pa⟩ := dc3.dput (x := ((l : Int), (b : Int))) (by rw [sizeLine_eq]; omega) g3 (.int (sq.length : Nat))
      have ks : kp ≠ S.sm := fun e => kM (by rw [e]; exact inM)
      have ss : S.st ≠ S.sm := fun e => stM (by rw [e]; exact inM)
      have st4 : StoreIs T.C_Store T.C_Blocks H4 S (sq ++ [((l : Int), (b : Int))]) es := hS2.grow (us := us) (v := .ref ep) (kvs := []) m hl hf
        (fun a c => (pa.2 a fun e => c (by rw [e]; exact inM)).trans (same a c)) (by rw [pa.2 _ z2]; exact i1) (by rw [pa.2 _ z3]; exact i2) (by rw [pa.2 _ z4]; exact i3) (by rw [pa.2 _ z5]; exact i4) lus pa.1 (by rw [pa.2 _ z1]; exact i6)
      have ll : (lvL sq).length = sq.length := List.length_map ..
      rw [ll]
      refine ⟨_, rfl, S.st, _, _, _, _, rfl, ho3, T.cl_Store, T.na_Store__small, rfl, _, rfl, S.sm, H4, rfl, dp, ?_⟩
      have g4 : H4 kp = some (.tup [.int (l : Int), .int (b : Int)]) := by rw [pa.2 _ ks]; exact g3
      have dg4 := pa.1.dget (x := ((l : Int), (b : Int))) g4
      rw [if_pos (mem_addK.mpr (.inr rfl))] at dg4
      obtain ⟨dx4, ru4, lg4, fu4, ho4⟩ := st4.obj
      refine ⟨_, rfl, S.st, _, _, _, _, rfl, ho4, T.cl_Store, T.na_Store__small, rfl, _, rfl, S.sm, _, rfl, dg4, ?_⟩
      have sv : setG (ixG sq) ((l : Int), (b : Int)) (.int (sq.length : Nat)) ((l : Int), (b : Int)) = .int (sq.length : Nat) := if_pos rfl
      rw [sv]
      refine q H4 (sq ++ [((l : Int), (b : Int))]) sq.length ⟨?_, st4, ⟨_, rfl⟩, by rw [List.length_append]; exact Nat.le_refl _, Nat.le_refl _⟩ ?_
      · refine (hide_up (e1.trans e2)).trans fun a o h => ?_
        by_cases c : a ∈ S.M
        · rw [hide_in c] at h
          cases h
        · rw [hide_out c] at h ⊢
          rw [pa.2 a fun e => c (by rw [e]; exact inM), same a c]
          exact h
      · rw [List.getElem?_append_right (Nat.le_refl _), Nat.sub_self]
        rfl
end
end My
namespace My
open PySem PySem.Spec PyProof.Rows L2 Vx
open TL
local macro_rules | `(tactic| k_invariant "new" ($n, $H:ident, $e:ident, $h:ident)) => `(tactic| (generalize hE : upd _ _ _ = $H; obtain ⟨$e:ident, $h:ident⟩ := gen_e hE $n; clear hE))
local macro_rules | `(tactic| k_places) => `(tactic| first
  | assumption
  | exact lst_of (by assumption)
  | exact tup_of (by assumption)
  | (refine getS (by assumption) ?_; k_places)
  | (refine Same.seq (by assumption) ?_; k_places)
  | (refine tupS (by assumption) ?_; k_places)
  | (refine lst_of ?_; k_places)
  | (refine tup_of ?_; k_places))
local macro_rules | `(tactic| k_subL) => `(tactic| first
  | k_places
  | solve_by_elim (maxDepth := 10) [getS, lst_of, tup_of, Same.seq, tupS])
local macro_rules | `(tactic| k_offL) => `(tactic| first
  | (show (0 : Int) < _; first | omega | decide)
  | (refine ⟨?_, ?_⟩ <;> first | omega | decide)
  | exact .inr ⟨by decide, by decide⟩
  | exact .inl ⟨by decide, by decide⟩
  | exact .inl ⟨by omega, by omega⟩
  | omega)
local macro_rules | `(tactic| k_clsL) => `(tactic| exact Nat.le_of_ble_eq_true rfl)
local macro_rules | `(tactic| k_upd) => `(tactic| simp only [L2.start, List.map_cons, List.map_nil, List.length_cons, List.length_nil, List.replicate_succ, List.replicate_zero, List.cons_append, List.nil_append, List.set_cons_zero, List.set_cons_succ])
section
variable {P : Program} {w : World} {K : PySem.W.Frag} {mg : Str → Option Value} {base : Heap}
theorem StoreIs.emp {C CB : Addr} {H : Hp} {A : SA} {sq : List Pr} {es : Nat} (h : StoreIs C CB H A sq es) (m : ((es : Int), (0 : Int)) ∈ sq) {n : Nat} (en : sq[n]? = some ((es : Int), (0 : Int))) : StoreIs C CB (upd H A.em (.lst (emL sq es ++ [.int (n : Int)]))) A sq (es + 1) ∧ hide A.M (upd H A.em (.lst (emL sq es ++ [.int (n : Int)]))) = hide A.M H := by
  have nd := h.nd
  simp only [SA.M, List.nodup_cons, List.mem_cons, List.not_mem_nil, or_false, not_or] at nd
  obtain ⟨⟨n1, n2, n3, n4, n5, n6⟩, ⟨m1, m2, m3, m4, m5⟩, ⟨o1, o2, o3, o4⟩, ⟨p1, p2, p3⟩, ⟨q1, q2⟩, r1, _⟩ := nd
  have em : A.em ∈ A.M := by simp only [SA.M, List.mem_cons, true_or, or_true]
  have eh : hide A.M (upd H A.em (.lst (emL sq es ++ [.int (n : Int)]))) = hide A.M H := hide_upd em
  refine ⟨?_, eh⟩
  obtain ⟨⟨dx, ru, lg, fu, h1⟩, h2, h3, h4, h5, ⟨us, h6, h7⟩, ⟨kvs, h8, h8'⟩, h9, h10, h11, h12⟩ := h
  refine ⟨⟨dx, ru, lg, fu, by rw [upd_ne n6]; exact h1⟩, by rw [eh]; exact h2, by rw [upd_ne m5]; exact h3, by rw [upd_ne o4]; exact h4, by rw [upd_ne p3]; exact h5, ⟨us, by rw [upd_ne q2]; exact h6, h7⟩, ⟨kvs, by rw [upd_ne r1]; exact h8, h8'⟩, ?_, fun i hi => ?_, h11, h12⟩
  · rw [upd_same]
    unfold emL
    rw [List.range_succ, List.map_append, List.map_singleton, get_idx h8'.2 en]
  · by_cases e : i = es
    · rw [e]; exact m
    · exact h10 i (by omega)
def Have (st : Addr) (H : Hp) (L : List (Addr × HO)) : Prop := (∀ x ∈ L, x.1 ≠ st ∧ H x.1 = some x.2) ∧ (L.map (·.1)).Nodup
theorem Have.fld {st : Addr} {H : Hp} {L : List (Addr × HO)} {o : HO} (h : Have st H L) : Have st (upd H st o) L :=
  ⟨fun x m => ⟨(h.1 x m).1, by rw [upd_ne (h.1 x m).1]; exact (h.1 x m).2⟩, h.2⟩
theorem Have.new {st p : Addr} {H H1 : Hp} {L : List (Addr × HO)} {o u : HO} (h : Have st H L) (e : Same H H1) (n : H p = none) (g : H1 p = some o) (hs : H st = some u) : Have st H1 ((p, o) :: L) := by
  refine ⟨fun x m => ?_, ?_⟩
  · rcases List.mem_cons.mp m with z | m
    · subst z
      exact ⟨fun z => (by dsimp only at z; rw [z, hs] at n; cases n), g⟩
    · exact ⟨(h.1 x m).1, e _ _ (h.1 x m).2⟩
  · rw [List.map_cons, List.nodup_cons]
    refine ⟨fun m => ?_, h.2⟩
    obtain ⟨x, mx, ex⟩ := List.mem_map.mp m
    have := (h.1 x mx).2
    dsimp only at ex
    rw [ex, n] at this
    cases this
theorem Have.same {st : Addr} {H H1 : Hp} {L : List (Addr × HO)} (h : Have st H L) (e : Same H H1) : Have st H1 L := ⟨fun x m => ⟨(h.1 x m).1, e _ _ (h.1 x m).2⟩, h.2⟩
def sp_Store_init (C CB : Addr) : Sp := fun vs H Q _ => ∃ (H0 : Hp) (st ru dx : Addr), vs = [.ref st, .ref ru] ∧ Same H0 H ∧ H0 st = none ∧ H st = some (.ins C dx []) ∧
  ∀ (H' : Hp) (A : SA), A.st = st → Same H0 (hide A.M H') → StoreIs C CB H' A [((0 : Int), (0 : Int)), (0, 1)] 1 → Q .non H'
theorem ok_Store_init (T : Txt K mg) : FnOk P w K mg base CX0 4 T.f_Store_init T.d_Store_init ["self", "rule"] (sp_Store_init T.C_Store T.C_Blocks) := by
  refine T.F_Store_init.ok sc_Store_init (fun vs H Q E h => ?_) (fun cdv A outer s H vs Q E hr h => ?_)
  · obtain ⟨_, _, _, _, rfl, _⟩ := h
    rfl
  · obtain ⟨H0, st, ru, dx, rfl, s0, st0, hst, q⟩ := h
    refine ⟨_, (pss_cons (ps_fld (pv 0) (pv 1) rfl)
      (pss_cons (ps_fld (pv 0) (pe_make T.M_Blocks (ok_Blocks_init T) (hr.mono (by decide)) rfl T.g_Blocks T.b_Blocks_init .nil pass0 (pa_cons (pv 1) pa_nil)) rfl)
      (pss_cons (ps_fld (pv 0) (pe_lst pa_nil) rfl)
      (pss_cons (ps_fld (pv 0) (pe_lst pa_nil) rfl)
      (pss_cons (ps_fld (pv 0) (pe_lst pa_nil) rfl)
      (pss_cons (ps_fld (pv 0) (pe_lst pa_nil) rfl)
      (pss_cons (ps_fld (pv 0) pe_dnewT rfl)
      (pss_cons (ps_fld (pv 0) pe_dnewT rfl)
      (pss_cons (ps_fld (pv 0) (pe_lst pa_nil) rfl)
      (pss_cons (ps_fld (pv 0) pe_dnewT rfl)
      (pss_cons (ps_expr (pe_bm PySem.F.plainAttrs_list PySem.F.slot_list_append PySem.F.type_list_append mt_append (pe_fld (pv 0) rfl) (pa_cons (pe_meth (pv 0) T.cl_Store T.m_Store_small (ok_Store_small T) (hr.mono (by decide)) T.b_Store_small .nil pass0 (pa_cons pe_int (pa_cons pe_int pa_nil))) pa_nil)))
      (pss_one (ps_expr (pe_meth (pv 0) T.cl_Store T.m_Store_small (ok_Store_small T) (hr.mono (by decide)) T.b_Store_small .nil pass0 (pa_cons pe_int (pa_cons pe_int pa_nil)))))))))))))))), ?_⟩
    k_upd
    refine ⟨_, rfl, _, rfl, st, T.C_Store, dx, [], rfl, hst, T.cl_Store, T.na_Store__rule, (by show 0 < 1000; decide), ?_⟩
    have s1 := mutS s0 st0 (o := .ins T.C_Store dx (putF "_rule" (.ref ru) []))
    have g1 : upd H st (.ins T.C_Store dx (putF "_rule" (.ref ru) [])) st = some (.ins T.C_Store dx (putF "_rule" (.ref ru) [])) := upd_same
    generalize upd H st (.ins T.C_Store dx (putF "_rule" (.ref ru) [])) = H1 at s1 g1
    refine ⟨_, rfl, ?_⟩
    intro bo dxb nb ndb neb
    refine ⟨H1, bo, ru, dxb, rfl, madeS nb ndb, nb, upd_same, fun H2 e2 hB => ⟨rfl, ?_⟩⟩
    have g2 := e2 _ _ g1
    have s2 := s1.trans e2
    obtain ⟨dxb, rub, flb, hb1, hb2⟩ := hB
    have bne : bo ≠ st := fun z => by rw [z, g1] at nb; cases nb
    have fne : flb ≠ st := fun z => by rw [z, g2] at hb2; cases hb2
    have bf' : bo ≠ flb := fun z => by rw [z, hb2] at hb1; cases hb1
    have L2 : Have st H2 [(bo, .ins T.C_Blocks dxb (bf rub flb)), (flb, .lst ((List.range 5).map fun l => .int (fullN l : Nat)))] := by
      refine ⟨fun x m => ?_, ?_⟩
      · rcases List.mem_cons.mp m with z | m
        · subst z
          exact ⟨bne, hb1⟩
        · have z := List.mem_singleton.mp m
          subst z
          exact ⟨fne, hb2⟩
      · show [bo, flb].Nodup
        rw [List.nodup_cons]
        exact ⟨fun m => bf' (List.mem_singleton.mp m), List.nodup_cons.mpr ⟨List.not_mem_nil, List.nodup_nil⟩⟩
    refine ⟨_, rfl, st, T.C_Store, dx, _, rfl, g2, T.cl_Store, T.na_Store__blocks, (by show 1 < 1000; decide), ?_⟩
    have s3 := mutS s2 st0 (o := .ins T.C_Store dx (putF "_blocks" (.ref bo) (putF "_rule" (.ref ru) [])))
    have L3 := L2.fld (o := .ins T.C_Store dx (putF "_blocks" (.ref bo) (putF "_rule" (.ref ru) [])))
    have g3 : upd H2 st (.ins T.C_Store dx (putF "_blocks" (.ref bo) (putF "_rule" (.ref ru) []))) st = some (.ins T.C_Store dx (putF "_blocks" (.ref bo) (putF "_rule" (.ref ru) []))) := upd_same
    generalize upd H2 st (.ins T.C_Store dx (putF "_blocks" (.ref bo) (putF "_rule" (.ref ru) []))) = H3 at s3 L3 g3
    refine ⟨by k_clsL, fun la nla => ?_⟩
    k_invariant "new" (nla, J3, d3, y3)
    have M3 := L3.new d3 nla y3 g3
    have t3 := s3.trans d3
    have h3 := d3 _ _ g3
    refine ⟨_, rfl, st, T.C_Store, dx, _, rfl, h3, T.cl_Store, T.na_Store__levels, (by show 2 < 1000; decide), ?_⟩
    have s4 := mutS t3 st0 (o := .ins T.C_Store dx (putF "_levels" (.ref la) (putF "_blocks" (.ref bo) (putF "_rule" (.ref ru) []))))
    have L4 := M3.fld (o := .ins T.C_Store dx (putF "_levels" (.ref la) (putF "_blocks" (.ref bo) (putF "_rule" (.ref ru) []))))
    have g4 : upd J3 st (.ins T.C_Store dx (putF "_levels" (.ref la) (putF "_blocks" (.ref bo) (putF "_rule" (.ref ru) [])))) st = some (.ins T.C_Store dx (putF "_levels" (.ref la) (putF "_blocks" (.ref bo) (putF "_rule" (.ref ru) [])))) := upd_same
    generalize upd J3 st (.ins T.C_Store dx (putF "_levels" (.ref la) (putF "_blocks" (.ref bo) (putF "_rule" (.ref ru) [])))) = H4 at s4 L4 g4 ⊢
    have f_la := backS s3 nla
    clear M3 t3 h3 y3 nla
    refine ⟨by k_clsL, fun ca nca => ?_⟩
    k_invariant "new" (nca, J4, d4, y4)
    have M4 := L4.new d4 nca y4 g4
    have t4 := s4.trans d4
    have h4 := d4 _ _ g4
    refine ⟨_, rfl, st, T.C_Store, dx, _, rfl, h4, T.cl_Store, T.na_Store__counts, (by show 3 < 1000; decide), ?_⟩
    have s5 := mutS t4 st0 (o := .ins T.C_Store dx (putF "_counts" (.ref ca) (putF "_levels" (.ref la) (putF "_blocks" (.ref bo) (putF "_rule" (.ref ru) [])))))
    have L5 := M4.fld (o := .ins T.C_Store dx (putF "_counts" (.ref ca) (putF "_levels" (.ref la) (putF "_blocks" (.ref bo) (putF "_rule" (.ref ru) [])))))
    have g5 : upd J4 st (.ins T.C_Store dx (putF "_counts" (.ref ca) (putF "_levels" (.ref la) (putF "_blocks" (.ref bo) (putF "_rule" (.ref ru) []))))) st = some (.ins T.C_Store dx (putF "_counts" (.ref ca) (putF "_levels" (.ref la) (putF "_blocks" (.ref bo) (putF "_rule" (.ref ru) []))))) := upd_same
    generalize upd J4 st (.ins T.C_Store dx (putF "_counts" (.ref ca) (putF "_levels" (.ref la) (putF "_blocks" (.ref bo) (putF "_rule" (.ref ru) []))))) = H5 at s5 L5 g5 ⊢
    have f_ca := backS s4 nca
    clear M4 t4 h4 y4 nca
    refine ⟨by k_clsL, fun ba nba => ?_⟩
    k_invariant "new" (nba, J5, d5, y5)
    have M5 := L5.new d5 nba y5 g5
    have t5 := s5.trans d5
    have h5 := d5 _ _ g5
    refine ⟨_, rfl, st, T.C_Store, dx, _, rfl, h5, T.cl_Store, T.na_Store__bits, (by show 4 < 1000; decide), ?_⟩
    have s6 := mutS t5 st0 (o := .ins T.C_Store dx (putF "_bits" (.ref ba) (putF "_counts" (.ref ca) (putF "_levels" (.ref la) (putF "_blocks" (.ref bo) (putF "_rule" (.ref ru) []))))))
    have L6 := M5.fld (o := .ins T.C_Store dx (putF "_bits" (.ref ba) (putF "_counts" (.ref ca) (putF "_levels" (.ref la) (putF "_blocks" (.ref bo) (putF "_rule" (.ref ru) []))))))
    have g6 : upd J5 st (.ins T.C_Store dx (putF "_bits" (.ref ba) (putF "_counts" (.ref ca) (putF "_levels" (.ref la) (putF "_blocks" (.ref bo) (putF "_rule" (.ref ru) [])))))) st = some (.ins T.C_Store dx (putF "_bits" (.ref ba) (putF "_counts" (.ref ca) (putF "_levels" (.ref la) (putF "_blocks" (.ref bo) (putF "_rule" (.ref ru) [])))))) := upd_same
    generalize upd J5 st (.ins T.C_Store dx (putF "_bits" (.ref ba) (putF "_counts" (.ref ca) (putF "_levels" (.ref la) (putF "_blocks" (.ref bo) (putF "_rule" (.ref ru) [])))))) = H6 at s6 L6 g6 ⊢
    have f_ba := backS s5 nba
    clear M5 t5 h5 y5 nba
    refine ⟨by k_clsL, fun pa npa => ?_⟩
    k_invariant "new" (npa, J6, d6, y6)
    have M6 := L6.new d6 npa y6 g6
    have t6 := s6.trans d6
    have h6 := d6 _ _ g6
    refine ⟨_, rfl, st, T.C_Store, dx, _, rfl, h6, T.cl_Store, T.na_Store__parts, (by show 5 < 1000; decide), ?_⟩
    have s7 := mutS t6 st0 (o := .ins T.C_Store dx (putF "_parts" (.ref pa) (putF "_bits" (.ref ba) (putF "_counts" (.ref ca) (putF "_levels" (.ref la) (putF "_blocks" (.ref bo) (putF "_rule" (.ref ru) [])))))))
    have L7 := M6.fld (o := .ins T.C_Store dx (putF "_parts" (.ref pa) (putF "_bits" (.ref ba) (putF "_counts" (.ref ca) (putF "_levels" (.ref la) (putF "_blocks" (.ref bo) (putF "_rule" (.ref ru) [])))))))
    have g7 : upd J6 st (.ins T.C_Store dx (putF "_parts" (.ref pa) (putF "_bits" (.ref ba) (putF "_counts" (.ref ca) (putF "_levels" (.ref la) (putF "_blocks" (.ref bo) (putF "_rule" (.ref ru) []))))))) st = some (.ins T.C_Store dx (putF "_parts" (.ref pa) (putF "_bits" (.ref ba) (putF "_counts" (.ref ca) (putF "_levels" (.ref la) (putF "_blocks" (.ref bo) (putF "_rule" (.ref ru) []))))))) := upd_same
    generalize upd J6 st (.ins T.C_Store dx (putF "_parts" (.ref pa) (putF "_bits" (.ref ba) (putF "_counts" (.ref ca) (putF "_levels" (.ref la) (putF "_blocks" (.ref bo) (putF "_rule" (.ref ru) []))))))) = H7 at s7 L7 g7 ⊢
    have f_pa := backS s6 npa
    clear M6 t6 h6 y6 npa
    refine fun sm nsm => ?_
    k_invariant "new" (nsm, J7, d7, y7)
    have M7 := L7.new d7 nsm y7 g7
    have t7 := s7.trans d7
    have h7 := d7 _ _ g7
    refine ⟨_, rfl, st, T.C_Store, dx, _, rfl, h7, T.cl_Store, T.na_Store__small, (by show 6 < 1000; decide), ?_⟩
    have s8 := mutS t7 st0 (o := .ins T.C_Store dx (putF "_small" (.ref sm) (putF "_parts" (.ref pa) (putF "_bits" (.ref ba) (putF "_counts" (.ref ca) (putF "_levels" (.ref la) (putF "_blocks" (.ref bo) (putF "_rule" (.ref ru) []))))))))
    have L8 := M7.fld (o := .ins T.C_Store dx (putF "_small" (.ref sm) (putF "_parts" (.ref pa) (putF "_bits" (.ref ba) (putF "_counts" (.ref ca) (putF "_levels" (.ref la) (putF "_blocks" (.ref bo) (putF "_rule" (.ref ru) []))))))))
    have g8 : upd J7 st (.ins T.C_Store dx (putF "_small" (.ref sm) (putF "_parts" (.ref pa) (putF "_bits" (.ref ba) (putF "_counts" (.ref ca) (putF "_levels" (.ref la) (putF "_blocks" (.ref bo) (putF "_rule" (.ref ru) [])))))))) st = some (.ins T.C_Store dx (putF "_small" (.ref sm) (putF "_parts" (.ref pa) (putF "_bits" (.ref ba) (putF "_counts" (.ref ca) (putF "_levels" (.ref la) (putF "_blocks" (.ref bo) (putF "_rule" (.ref ru) [])))))))) := upd_same
    generalize upd J7 st (.ins T.C_Store dx (putF "_small" (.ref sm) (putF "_parts" (.ref pa) (putF "_bits" (.ref ba) (putF "_counts" (.ref ca) (putF "_levels" (.ref la) (putF "_blocks" (.ref bo) (putF "_rule" (.ref ru) [])))))))) = H8 at s8 L8 g8 ⊢
    have f_sm := backS s7 nsm
    clear M7 t7 h7 y7 nsm
    refine fun lg nlg => ?_
    k_invariant "new" (nlg, J8, d8, y8)
    have M8 := L8.new d8 nlg y8 g8
    have t8 := s8.trans d8
    have h8 := d8 _ _ g8
    refine ⟨_, rfl, st, T.C_Store, dx, _, rfl, h8, T.cl_Store, T.na_Store__large, (by show 7 < 1000; decide), ?_⟩
    have s9 := mutS t8 st0 (o := .ins T.C_Store dx (putF "_large" (.ref lg) (putF "_small" (.ref sm) (putF "_parts" (.ref pa) (putF "_bits" (.ref ba) (putF "_counts" (.ref ca) (putF "_levels" (.ref la) (putF "_blocks" (.ref bo) (putF "_rule" (.ref ru) [])))))))))
    have L9 := M8.fld (o := .ins T.C_Store dx (putF "_large" (.ref lg) (putF "_small" (.ref sm) (putF "_parts" (.ref pa) (putF "_bits" (.ref ba) (putF "_counts" (.ref ca) (putF "_levels" (.ref la) (putF "_blocks" (.ref bo) (putF "_rule" (.ref ru) [])))))))))
    have g9 : upd J8 st (.ins T.C_Store dx (putF "_large" (.ref lg) (putF "_small" (.ref sm) (putF "_parts" (.ref pa) (putF "_bits" (.ref ba) (putF "_counts" (.ref ca) (putF "_levels" (.ref la) (putF "_blocks" (.ref bo) (putF "_rule" (.ref ru) []))))))))) st = some (.ins T.C_Store dx (putF "_large" (.ref lg) (putF "_small" (.ref sm) (putF "_parts" (.ref pa) (putF "_bits" (.ref ba) (putF "_counts" (.ref ca) (putF "_levels" (.ref la) (putF "_blocks" (.ref bo) (putF "_rule" (.ref ru) []))))))))) := upd_same
    generalize upd J8 st (.ins T.C_Store dx (putF "_large" (.ref lg) (putF "_small" (.ref sm) (putF "_parts" (.ref pa) (putF "_bits" (.ref ba) (putF "_counts" (.ref ca) (putF "_levels" (.ref la) (putF "_blocks" (.ref bo) (putF "_rule" (.ref ru) []))))))))) = H9 at s9 L9 g9 ⊢
    have f_lg := backS s8 nlg
    clear M8 t8 h8 y8 nlg
    refine ⟨by k_clsL, fun em nem => ?_⟩
    k_invariant "new" (nem, J9, d9, y9)
    have M9 := L9.new d9 nem y9 g9
    have t9 := s9.trans d9
    have h9 := d9 _ _ g9
    refine ⟨_, rfl, st, T.C_Store, dx, _, rfl, h9, T.cl_Store, T.na_Store__empty, (by show 8 < 1000; decide), ?_⟩
    have s10 := mutS t9 st0 (o := .ins T.C_Store dx (putF "_empty" (.ref em) (putF "_large" (.ref lg) (putF "_small" (.ref sm) (putF "_parts" (.ref pa) (putF "_bits" (.ref ba) (putF "_counts" (.ref ca) (putF "_levels" (.ref la) (putF "_blocks" (.ref bo) (putF "_rule" (.ref ru) []))))))))))
    have L10 := M9.fld (o := .ins T.C_Store dx (putF "_empty" (.ref em) (putF "_large" (.ref lg) (putF "_small" (.ref sm) (putF "_parts" (.ref pa) (putF "_bits" (.ref ba) (putF "_counts" (.ref ca) (putF "_levels" (.ref la) (putF "_blocks" (.ref bo) (putF "_rule" (.ref ru) []))))))))))
    have g10 : upd J9 st (.ins T.C_Store dx (putF "_empty" (.ref em) (putF "_large" (.ref lg) (putF "_small" (.ref sm) (putF "_parts" (.ref pa) (putF "_bits" (.ref ba) (putF "_counts" (.ref ca) (putF "_levels" (.ref la) (putF "_blocks" (.ref bo) (putF "_rule" (.ref ru) [])))))))))) st = some (.ins T.C_Store dx (putF "_empty" (.ref em) (putF "_large" (.ref lg) (putF "_small" (.ref sm) (putF "_parts" (.ref pa) (putF "_bits" (.ref ba) (putF "_counts" (.ref ca) (putF "_levels" (.ref la) (putF "_blocks" (.ref bo) (putF "_rule" (.ref ru) [])))))))))) := upd_same
    generalize upd J9 st (.ins T.C_Store dx (putF "_empty" (.ref em) (putF "_large" (.ref lg) (putF "_small" (.ref sm) (putF "_parts" (.ref pa) (putF "_bits" (.ref ba) (putF "_counts" (.ref ca) (putF "_levels" (.ref la) (putF "_blocks" (.ref bo) (putF "_rule" (.ref ru) [])))))))))) = H10 at s10 L10 g10 ⊢
    have f_em := backS s9 nem
    clear M9 t9 h9 y9 nem
    refine fun fu nfu => ?_
    k_invariant "new" (nfu, J10, d10, y10)
    have M10 := L10.new d10 nfu y10 g10
    have t10 := s10.trans d10
    have h10 := d10 _ _ g10
    refine ⟨_, rfl, st, T.C_Store, dx, _, rfl, h10, T.cl_Store, T.na_Store__futures, (by show 9 < 1000; decide), ?_⟩
    have s11 := mutS t10 st0 (o := .ins T.C_Store dx (putF "_futures" (.ref fu) (putF "_empty" (.ref em) (putF "_large" (.ref lg) (putF "_small" (.ref sm) (putF "_parts" (.ref pa) (putF "_bits" (.ref ba) (putF "_counts" (.ref ca) (putF "_levels" (.ref la) (putF "_blocks" (.ref bo) (putF "_rule" (.ref ru) [])))))))))))
    have L11 := M10.fld (o := .ins T.C_Store dx (putF "_futures" (.ref fu) (putF "_empty" (.ref em) (putF "_large" (.ref lg) (putF "_small" (.ref sm) (putF "_parts" (.ref pa) (putF "_bits" (.ref ba) (putF "_counts" (.ref ca) (putF "_levels" (.ref la) (putF "_blocks" (.ref bo) (putF "_rule" (.ref ru) [])))))))))))
    have g11 : upd J10 st (.ins T.C_Store dx (putF "_futures" (.ref fu) (putF "_empty" (.ref em) (putF "_large" (.ref lg) (putF "_small" (.ref sm) (putF "_parts" (.ref pa) (putF "_bits" (.ref ba) (putF "_counts" (.ref ca) (putF "_levels" (.ref la) (putF "_blocks" (.ref bo) (putF "_rule" (.ref ru) []))))))))))) st = some (.ins T.C_Store dx (putF "_futures" (.ref fu) (putF "_empty" (.ref em) (putF "_large" (.ref lg) (putF "_small" (.ref sm) (putF "_parts" (.ref pa) (putF "_bits" (.ref ba) (putF "_counts" (.ref ca) (putF "_levels" (.ref la) (putF "_blocks" (.ref bo) (putF "_rule" (.ref ru) []))))))))))) := upd_same
    generalize upd J10 st (.ins T.C_Store dx (putF "_futures" (.ref fu) (putF "_empty" (.ref em) (putF "_large" (.ref lg) (putF "_small" (.ref sm) (putF "_parts" (.ref pa) (putF "_bits" (.ref ba) (putF "_counts" (.ref ca) (putF "_levels" (.ref la) (putF "_blocks" (.ref bo) (putF "_rule" (.ref ru) []))))))))))) = H11 at s11 L11 g11 ⊢
    have f_fu := backS s10 nfu
    clear M10 t10 h10 y10 nfu
    obtain ⟨kf, nd⟩ := L11
    simp only [List.mem_cons, List.not_mem_nil, or_false, forall_eq_or_imp, forall_eq] at kf
    obtain ⟨kfu, ⟨nem, kem⟩, klg, ⟨nsm, ksm⟩, ⟨npa, kpa⟩, ⟨nba, kba⟩, ⟨nca, kca⟩, ⟨nla, kla⟩, ⟨_, kbo⟩, ⟨_, kfl⟩⟩ := kf
    simp only [List.map_cons, List.map_nil, List.nodup_cons, List.mem_cons, List.not_mem_nil, or_false, not_or] at nd
    obtain ⟨A0, eA⟩ : ∃ A0 : SA, A0 = ⟨st, bo, la, ca, ba, pa, sm, em⟩ := ⟨_, rfl⟩
    have eM : A0.M = [la, ca, ba, pa, sm, em] := by rw [eA]; rfl
    have ndA : (A0.st :: A0.M).Nodup := by
      rw [eM, eA]
      simp only [List.nodup_cons, List.mem_cons, List.not_mem_nil, or_false, not_or, not_false_eq_true, List.nodup_nil, and_true]
      obtain ⟨_, ⟨a1, a2, a3, a4, a5, a6, a7, a8⟩, _, ⟨b1, b2, b3, b4, b5, b6⟩, ⟨c1, c2, c3, c4, c5⟩, ⟨d1, d2, d3, d4⟩, ⟨e1, e2, e3⟩, _⟩ := nd
      and_intros <;> (intro z; have z' := z.symm; contradiction)
    have boM : bo ∉ A0.M := by
      rw [eM]
      simp only [List.mem_cons, List.not_mem_nil, or_false, not_or]
      obtain ⟨_, ⟨a1, a2, a3, a4, a5, a6, a7, a8⟩, _, ⟨b1, b2, b3, b4, b5, b6⟩, ⟨c1, c2, c3, c4, c5⟩, ⟨d1, d2, d3, d4⟩, ⟨e1, e2, e3⟩, ⟨r1, r2⟩, _⟩ := nd
      and_intros <;> (intro z; have z' := z.symm; contradiction)
    have flM : flb ∉ A0.M := by
      rw [eM]
      simp only [List.mem_cons, List.not_mem_nil, or_false, not_or]
      obtain ⟨_, ⟨a1, a2, a3, a4, a5, a6, a7, a8⟩, _, ⟨b1, b2, b3, b4, b5, b6⟩, ⟨c1, c2, c3, c4, c5⟩, ⟨d1, d2, d3, d4⟩, ⟨e1, e2, e3⟩, ⟨r1, r2⟩, _⟩ := nd
      and_intros <;> (intro z; have z' := z.symm; contradiction)
    have fr0 : ∀ m ∈ A0.M, H0 m = none := fun m hm => by
      rw [eM] at hm
      simp only [List.mem_cons, List.not_mem_nil, or_false] at hm
      rcases hm with z | z | z | z | z | z <;> rw [z] <;> assumption
    have hS : StoreIs T.C_Store T.C_Blocks H11 A0 [] 0 := by
      refine ⟨⟨dx, ru, lg, fu, by rw [eA]; exact g11⟩, ⟨dxb, rub, flb, by rw [eA] at boM ⊢; rw [hide_out boM]; exact kbo, by rw [hide_out flM]; exact kfl⟩, by rw [eA]; exact kla, by rw [eA]; exact kca, by rw [eA]; exact kba, ⟨[], by rw [eA]; exact kpa, rfl⟩, by rw [eA]; exact Dct.new _ ksm, by rw [eA]; exact kem, fun i hi => absurd hi (Nat.not_lt_zero i), ndA, fun x m => by cases m⟩
    have fit0 : Fit 0 0 := fun i z => by rw [Nat.zero_testBit] at z; cases z
    have fit1 : Fit 0 1 := fun i z => by
      rw [show (1 : Nat) = 2 ^ 0 from rfl, Nat.testBit_two_pow, decide_eq_true_eq] at z
      omega
    subst eA
    refine ⟨_, rfl, st, _, _, _, _, rfl, g11, T.cl_Store, T.na_Store__empty, rfl, .inl ⟨rfl, _, lst_of kem⟩, _, rfl, st, _, _, rfl, g11, rfl, ?_⟩
    refine ⟨⟨st, bo, la, ca, ba, pa, sm, em⟩, [], 0, 0, 0, rfl, hS, by decide, fit0, by decide, fun H12 sq1 n1 gr1 en1 => ?_⟩
    have m1 := List.mem_of_getElem? en1
    have e1 : sq1 = [((0 : Int), (0 : Int))] := by
      have l1 := gr1.len
      match sq1, m1, l1 with
      | [x], m1, _ => exact congrArg (fun y => [y]) (List.mem_singleton.mp m1).symm
      | _ :: _ :: _, _, l1 => simp at l1
    subst e1
    obtain ⟨hS2, hh2⟩ := gr1.st.emp (es := 0) m1 en1
    refine ⟨_, _, _, rfl, rfl, gr1.st.em, by decide, ?_⟩
    have fr2 : Same H0 (hide [la, ca, ba, pa, sm, em] H12) := fun b o e => gr1.fr b o (by
      rw [hide_out fun m => by rw [fr0 b m] at e; cases e]
      exact s11 _ _ e)
    have fr3 : Same H0 (hide [la, ca, ba, pa, sm, em] (upd H12 em (.lst (emL [((0 : Int), (0 : Int))] 0 ++ [.int (n1 : Int)])))) := by
      have : hide [la, ca, ba, pa, sm, em] (upd H12 em (.lst (emL [((0 : Int), (0 : Int))] 0 ++ [.int (n1 : Int)]))) = hide [la, ca, ba, pa, sm, em] H12 := hh2
      rw [this]
      exact fr2
    generalize upd H12 em (.lst (emL [((0 : Int), (0 : Int))] 0 ++ [.int (n1 : Int)])) = H13 at hS2 fr3 ⊢
    obtain ⟨dx2, ru2, lg2, fu2, ho2⟩ := hS2.obj
    refine ⟨_, rfl, st, _, _, rfl, ho2, rfl, ?_⟩
    refine ⟨⟨st, bo, la, ca, ba, pa, sm, em⟩, [((0 : Int), (0 : Int))], 1, 0, 1, rfl, hS2, by decide, fit1, by decide, fun H14 sq2 n2 gr2 en2 => ?_⟩
    have m2 := List.mem_of_getElem? en2
    have e2 : sq2 = [((0 : Int), (0 : Int)), (0, 1)] := by
      have l2 := gr2.len
      obtain ⟨r, er⟩ := gr2.pre
      subst er
      match r, m2, l2 with
      | [], m2, _ => cases List.mem_singleton.mp m2
      | [x], m2, _ =>
        rcases List.mem_cons.mp m2 with z | z
        · cases z
        · exact congrArg (fun y => [((0 : Int), (0 : Int)), y]) (List.mem_singleton.mp z).symm
      | _ :: _ :: _, _, l2 => simp at l2
    subst e2
    refine q H14 ⟨st, bo, la, ca, ba, pa, sm, em⟩ rfl (fun b o e => gr2.fr b o (fr3 b o e)) gr2.st
end
end My
namespace My
open PySem PySem.Spec PyProof.Rows L2 Vx
open TL
local macro_rules | `(tactic| k_invariant "new" ($n, $H:ident, $e:ident, $h:ident)) => `(tactic| (generalize hE : upd _ _ _ = $H; obtain ⟨$e:ident, $h:ident⟩ := gen_e hE $n; clear hE))
local macro_rules | `(tactic| k_places) => `(tactic| first
  | assumption
  | exact lst_of (by assumption)
  | exact tup_of (by assumption)
  | (refine getS (by assumption) ?_; k_places)
  | (refine Same.seq (by assumption) ?_; k_places)
  | (refine tupS (by assumption) ?_; k_places)
  | (refine lst_of ?_; k_places)
  | (refine tup_of ?_; k_places))
local macro_rules | `(tactic| k_subL) => `(tactic| first
  | k_places
  | solve_by_elim (maxDepth := 10) [getS, lst_of, tup_of, Same.seq, tupS])
local macro_rules | `(tactic| k_offL) => `(tactic| first
  | (show (0 : Int) < _; first | omega | decide)
  | (refine ⟨?_, ?_⟩ <;> first | omega | decide)
  | exact .inr ⟨by decide, by decide⟩
  | exact .inl ⟨by decide, by decide⟩
  | exact .inl ⟨by omega, by omega⟩
  | omega)
local macro_rules | `(tactic| k_clsL) => `(tactic| exact Nat.le_of_ble_eq_true rfl)
local macro_rules | `(tactic| k_upd) => `(tactic| simp only [L2.start, List.map_cons, List.map_nil, List.length_cons, List.length_nil, List.replicate_succ, List.replicate_zero, List.cons_append, List.nil_append, List.set_cons_zero, List.set_cons_succ])
section
variable {P : Program} {w : World} {K : PySem.W.Frag} {mg : Str → Option Value} {base : Heap}
/-! ### the floor, by blocks -/
def placeP (x : Pr) : Pr := (x.1 / 32, x.2 / 32)
def bitP (x : Pr) : Nat := (x.1 % 32).toNat * 32 + (x.2 % 32).toNat
def backP (p : Pr) (i : Nat) : Pr := (p.1 * 32 + ((i / 32 : Nat) : Int), p.2 * 32 + ((i % 32 : Nat) : Int))
theorem bitP_lt (x : Pr) : bitP x < 1024 := by
  unfold bitP
  omega
theorem back_place {p : Pr} {i : Nat} (h : i < 1024) : placeP (backP p i) = p := by
  refine Prod.ext ?_ ?_
  · show (p.1 * 32 + ((i / 32 : Nat) : Int)) / 32 = p.1
    omega
  · show (p.2 * 32 + ((i % 32 : Nat) : Int)) / 32 = p.2
    omega
theorem back_bit {p : Pr} {i : Nat} (h : i < 1024) : bitP (backP p i) = i := by
  show ((p.1 * 32 + ((i / 32 : Nat) : Int)) % 32).toNat * 32 + ((p.2 * 32 + ((i % 32 : Nat) : Int)) % 32).toNat = i
  omega
theorem back_back (x : Pr) : backP (placeP x) (bitP x) = x := by
  unfold bitP
  have h1 : ((x.1 % 32).toNat * 32 + (x.2 % 32).toNat) / 32 = (x.1 % 32).toNat := by omega
  have h2 : ((x.1 % 32).toNat * 32 + (x.2 % 32).toNat) % 32 = (x.2 % 32).toNat := by omega
  refine Prod.ext ?_ ?_
  · show x.1 / 32 * 32 + ((((x.1 % 32).toNat * 32 + (x.2 % 32).toNat) / 32 : Nat) : Int) = x.1
    rw [h1]
    omega
  · show x.2 / 32 * 32 + ((((x.1 % 32).toNat * 32 + (x.2 % 32).toNat) % 32 : Nat) : Int) = x.2
    rw [h2]
    omega
/-- whether a cell is alive -/
def inB (g : Pr → Nat) (x : Pr) : Bool := (g (placeP x)).testBit (bitP x)
theorem and31 (r : Int) : Builtin.bitAnd r 31 = r % 32 := by
  unfold Builtin.bitAnd
  by_cases h : 0 ≤ r
  · rw [decide_eq_true h]
    show ((r.toNat &&& 31 : Nat) : Int) = r % 32
    rw [Nat.and_two_pow_sub_one_eq_mod r.toNat 5]
    show ((r.toNat % 32 : Nat) : Int) = r % 32
    omega
  · rw [decide_eq_false h]
    show (31 : Int) - ((31 &&& (Builtin.bitNot r).toNat : Nat) : Int) = r % 32
    rw [Nat.and_comm, Nat.and_two_pow_sub_one_eq_mod (Builtin.bitNot r).toNat 5]
    show (31 : Int) - (((Builtin.bitNot r).toNat % 32 : Nat) : Int) = r % 32
    have e : Builtin.bitNot r = -r - 1 := by
      unfold Builtin.bitNot
      omega
    rw [e]
    omega
/-- the cells of a list by their places -/
def bkP (ps : List Pr) (p : Pr) : Nat := ps.foldl (fun acc x => if placeP x = p then acc ||| 1 <<< bitP x else acc) 0
theorem bk_fold (p : Pr) (i : Nat) : ∀ (ps : List Pr) (a : Nat), (ps.foldl (fun acc x => if placeP x = p then acc ||| 1 <<< bitP x else acc) a).testBit i = true ↔ a.testBit i = true ∨ ∃ x ∈ ps, placeP x = p ∧ bitP x = i
  | [], a => ⟨fun h => .inl h, fun h => h.elim id fun ⟨_, m, _⟩ => (by cases m)⟩
  | y :: ps, a => by
    rw [List.foldl_cons, bk_fold p i ps]
    by_cases c : placeP y = p
    · rw [if_pos c, Nat.testBit_or, Bool.or_eq_true, Nat.one_shiftLeft, Nat.testBit_two_pow, decide_eq_true_eq]
      constructor
      · rintro ((h | h) | ⟨x, m, h⟩)
        · exact .inl h
        · exact .inr ⟨y, List.mem_cons_self, c, h⟩
        · exact .inr ⟨x, List.mem_cons_of_mem _ m, h⟩
      · rintro (h | ⟨x, m, h⟩)
        · exact .inl (.inl h)
        · rcases List.mem_cons.mp m with e | m
          · rw [e] at h
            exact .inl (.inr h.2)
          · exact .inr ⟨x, m, h⟩
    · rw [if_neg c]
      constructor
      · rintro (h | ⟨x, m, h⟩)
        · exact .inl h
        · exact .inr ⟨x, List.mem_cons_of_mem _ m, h⟩
      · rintro (h | ⟨x, m, h⟩)
        · exact .inl h
        · rcases List.mem_cons.mp m with e | m
          · rw [e] at h
            exact absurd h.1 c
          · exact .inr ⟨x, m, h⟩
theorem bk_bit {ps : List Pr} {p : Pr} {i : Nat} : (bkP ps p).testBit i = true ↔ ∃ x ∈ ps, placeP x = p ∧ bitP x = i := by
  unfold bkP
  rw [bk_fold]
  exact ⟨fun h => h.elim (fun z => by rw [Nat.zero_testBit] at z; cases z) id, .inr⟩
theorem bk_in {ps : List Pr} {x : Pr} : inB (bkP ps) x = true ↔ x ∈ ps := by
  unfold inB
  rw [bk_bit]
  constructor
  · rintro ⟨y, m, h1, h2⟩
    have := back_back y
    rw [h1, h2, back_back x] at this
    rw [this]
    exact m
  · exact fun m => ⟨x, m, rfl, rfl⟩
theorem lt_bits {n : Nat} (h : ∀ i, n.testBit i = true → i < 1024) : n < 2 ^ 1024 := Nat.lt_pow_two_of_testBit n fun i hi => by
  cases e : n.testBit i with
  | false => rfl
  | true =>
    have := h i e
    omega
theorem bk_lt (ps : List Pr) (p : Pr) : bkP ps p < 2 ^ 1024 := lt_bits fun i t => by
  obtain ⟨x, _, _, e⟩ := bk_bit.mp t
  rw [← e]
  exact bitP_lt x
theorem bk_ne {ps : List Pr} {p : Pr} : bkP ps p ≠ 0 ↔ ∃ x ∈ ps, placeP x = p := by
  constructor
  · intro h
    obtain ⟨i, t⟩ := Nat.exists_testBit_of_ne_zero h
    obtain ⟨x, m, e, _⟩ := bk_bit.mp t
    exact ⟨x, m, e⟩
  · rintro ⟨x, m, e⟩ z
    have := bk_bit.mpr ⟨x, m, e, rfl⟩
    rw [z, Nat.zero_testBit] at this
    cases this
def plK (ps : List Pr) : List Pr := ps.foldl (fun acc x => addK acc (placeP x)) []
theorem addK_mem {ps : List Pr} {x y : Pr} : y ∈ addK ps x ↔ y ∈ ps ∨ y = x := by
  by_cases m : x ∈ ps
  · rw [addK_old m]
    exact ⟨.inl, fun h => h.elim id fun e => e ▸ m⟩
  · rw [addK_new m, List.mem_append, List.mem_singleton]
theorem addK_len (ps : List Pr) (x : Pr) : (addK ps x).length ≤ ps.length + 1 := by
  by_cases m : x ∈ ps
  · rw [addK_old m]
    omega
  · rw [addK_new m, List.length_append, List.length_singleton]
    exact Nat.le_refl _
theorem pl_fold (p : Pr) : ∀ (ps acc : List Pr), (p ∈ ps.foldl (fun acc x => addK acc (placeP x)) acc ↔ p ∈ acc ∨ ∃ x ∈ ps, placeP x = p) ∧ (ps.foldl (fun acc x => addK acc (placeP x)) acc).length ≤ acc.length + ps.length
  | [], acc => ⟨⟨.inl, fun h => h.elim id fun ⟨_, m, _⟩ => (by cases m)⟩, Nat.le_refl _⟩
  | y :: ps, acc => by
    rw [List.foldl_cons]
    obtain ⟨a, b⟩ := pl_fold p ps (addK acc (placeP y))
    have := addK_len acc (placeP y)
    refine ⟨a.trans ?_, by rw [List.length_cons]; omega⟩
    rw [addK_mem]
    constructor
    · rintro ((h | h) | ⟨x, m, h⟩)
      · exact .inl h
      · exact .inr ⟨y, List.mem_cons_self, h.symm⟩
      · exact .inr ⟨x, List.mem_cons_of_mem _ m, h⟩
    · rintro (h | ⟨x, m, h⟩)
      · exact .inl (.inl h)
      · rcases List.mem_cons.mp m with e | m
        · rw [e] at h
          exact .inl (.inr h.symm)
        · exact .inr ⟨x, m, h⟩
theorem mem_plK {ps : List Pr} {p : Pr} : p ∈ plK ps ↔ ∃ x ∈ ps, placeP x = p := (pl_fold p ps []).1.trans ⟨fun h => h.elim (fun m => by cases m) id, .inr⟩
theorem plK_len (ps : List Pr) : (plK ps).length ≤ ps.length := by
  have := (pl_fold (0, 0) ps []).2
  show (ps.foldl _ []).length ≤ _
  rw [List.length_nil] at this
  omega
/-! ### changing a block -/
def chg (m : Nat) (a b : Nat) : Nat := if m = 0 then a ||| b else if m = 1 then a ^^^ (a &&& b) else a ^^^ b
def chgB (m : Nat) (a b : Bool) : Bool := if m = 0 then a || b else if m = 1 then a && !b else a ^^ b
theorem chg_bit (m a b i : Nat) : (chg m a b).testBit i = chgB m (a.testBit i) (b.testBit i) := by
  unfold chg chgB
  by_cases h0 : m = 0
  · rw [if_pos h0, if_pos h0, Nat.testBit_or]
  · rw [if_neg h0, if_neg h0]
    by_cases h1 : m = 1
    · rw [if_pos h1, if_pos h1, Nat.testBit_xor, Nat.testBit_and]
      cases a.testBit i <;> cases b.testBit i <;> rfl
    · rw [if_neg h1, if_neg h1, Nat.testBit_xor]
theorem chgB_no (m : Nat) (a : Bool) : chgB m a false = a := by
  unfold chgB
  by_cases h0 : m = 0
  · rw [if_pos h0, Bool.or_false]
  · rw [if_neg h0]
    by_cases h1 : m = 1
    · rw [if_pos h1]
      cases a <;> rfl
    · rw [if_neg h1]
      cases a <;> rfl
theorem chgB_off (m : Nat) : chgB m false false = false := chgB_no m false
theorem chg_lt {m a b : Nat} (ha : a < 2 ^ 1024) (hb : b < 2 ^ 1024) : chg m a b < 2 ^ 1024 := lt_bits fun i t => by
  refine Classical.byContradiction fun h => ?_
  have z : ∀ n, n < 2 ^ 1024 → n.testBit i = false := fun n hn => Nat.testBit_lt_two_pow (Nat.lt_of_lt_of_le hn (Nat.pow_le_pow_right (by decide) (by omega)))
  rw [chg_bit, z a ha, z b hb, chgB_off] at t
  cases t
/-! ### the living blocks of a world -/
structure LivIs (H : Hp) (D : Addr) (ks : List Pr) (g : Pr → Nat) : Prop where
  dct : Dct H D ks (fun p => .int (g p : Nat))
  pos : ∀ p, p ∈ ks ↔ g p ≠ 0
  lt : ∀ p, g p < 2 ^ 1024
theorem LivIs.up {H H' : Hp} {D : Addr} {ks : List Pr} {g : Pr → Nat} (h : LivIs H D ks g) (e : Same H H') : LivIs H' D ks g := ⟨h.dct.up e, h.pos, h.lt⟩
theorem LivIs.nd {H : Hp} {D : Addr} {ks : List Pr} {g : Pr → Nat} (h : LivIs H D ks g) : ks.Nodup := by
  obtain ⟨kvs, _, _, nd⟩ := h.dct
  exact nd
theorem LivIs.orG {H : Hp} {D : Addr} {ks : List Pr} {g : Pr → Nat} (h : LivIs H D ks g) (p : Pr) : Vx.orG ks (fun p => V.int (g p : Nat)) (.int 0) p = .int (g p : Nat) := by
  unfold Vx.orG
  by_cases m : p ∈ ks
  · rw [if_pos m]
  · rw [if_neg m]
    have : g p = 0 := Classical.not_not.mp fun z => m ((h.pos p).mpr z)
    rw [this]
    rfl
def cellsAt (p : Pr) (b : Nat) : List Pr := (cellsN b).map fun y => (p.1 * 32 + y.1, p.2 * 32 + y.2)
def cellsW (ks : List Pr) (g : Pr → Nat) : List Pr := (ks.map fun p => cellsAt p (g p)).flatten
theorem cellsAt_mem {p x : Pr} {b : Nat} : x ∈ cellsAt p b ↔ placeP x = p ∧ b.testBit (bitP x) = true := by
  unfold cellsAt
  rw [List.mem_map]
  constructor
  · rintro ⟨y, m, rfl⟩
    obtain ⟨j, mj, rfl⟩ := List.mem_map.mp m
    obtain ⟨lj, tj⟩ := mem_bitsB.mp mj
    show placeP (backP p j) = p ∧ b.testBit (bitP (backP p j)) = true
    rw [back_place lj, back_bit lj]
    exact ⟨rfl, tj⟩
  · rintro ⟨e, t⟩
    refine ⟨at32 (bitP x), mem_cellsN.mpr ⟨bitP_lt x, t⟩, ?_⟩
    show backP p (bitP x) = x
    rw [← e, back_back]
theorem cellsW_mem {ks : List Pr} {g : Pr → Nat} {x : Pr} : x ∈ cellsW ks g ↔ placeP x ∈ ks ∧ inB g x = true := by
  unfold cellsW
  rw [List.mem_flatten]
  constructor
  · rintro ⟨l, ml, mx⟩
    obtain ⟨p, mp, rfl⟩ := List.mem_map.mp ml
    obtain ⟨e, t⟩ := cellsAt_mem.mp mx
    subst e
    exact ⟨mp, t⟩
  · rintro ⟨m, t⟩
    exact ⟨cellsAt (placeP x) (g (placeP x)), List.mem_map.mpr ⟨placeP x, m, rfl⟩, cellsAt_mem.mpr ⟨rfl, t⟩⟩
theorem cellsAt_nd (p : Pr) (b : Nat) : (cellsAt p b).Nodup := by
  refine List.pairwise_map.mpr ((cellsN_asc b).imp fun {x y} h e => ?_)
  have := ltP_iff.mp h
  have e1 : p.1 * 32 + x.1 = p.1 * 32 + y.1 := congrArg Prod.fst e
  have e2 : p.2 * 32 + x.2 = p.2 * 32 + y.2 := congrArg Prod.snd e
  omega
theorem cellsW_nd {g : Pr → Nat} : ∀ {ks : List Pr}, ks.Nodup → (cellsW ks g).Nodup
  | [], _ => List.Pairwise.nil
  | p :: ks, nd => by
    obtain ⟨n1, n2⟩ := List.nodup_cons.mp nd
    show (cellsAt p (g p) ++ cellsW ks g).Nodup
    refine List.pairwise_append.mpr ⟨cellsAt_nd p _, cellsW_nd n2, fun x mx y my e => ?_⟩
    rw [e] at mx
    have := (cellsAt_mem.mp mx).1
    exact n1 (this ▸ (cellsW_mem.mp my).1)
theorem cellsW_len (ks : List Pr) (g : Pr → Nat) : (cellsW ks g).length = (ks.map fun p => popN (g p)).sum := by
  unfold cellsW
  rw [List.length_flatten, List.map_map]
  congr 1
  refine List.map_congr_left fun p _ => ?_
  show (cellsAt p (g p)).length = _
  unfold cellsAt
  rw [List.length_map, cellsN_len]
end
end My
namespace My
open PySem PySem.Spec PyProof.Rows L2 Vx
open TL
local macro_rules | `(tactic| k_invariant "new" ($n, $H:ident, $e:ident, $h:ident)) => `(tactic| (generalize hE : upd _ _ _ = $H; obtain ⟨$e:ident, $h:ident⟩ := gen_e hE $n; clear hE))
local macro_rules | `(tactic| k_places) => `(tactic| first
  | assumption
  | exact lst_of (by assumption)
  | exact tup_of (by assumption)
  | (refine getS (by assumption) ?_; k_places)
  | (refine Same.seq (by assumption) ?_; k_places)
  | (refine tupS (by assumption) ?_; k_places)
  | (refine lst_of ?_; k_places)
  | (refine tup_of ?_; k_places))
local macro_rules | `(tactic| k_subL) => `(tactic| first
  | k_places
  | solve_by_elim (maxDepth := 10) [getS, lst_of, tup_of, Same.seq, tupS])
local macro_rules | `(tactic| k_offL) => `(tactic| first
  | (show (0 : Int) < _; first | omega | decide)
  | (refine ⟨?_, ?_⟩ <;> first | omega | decide)
  | exact .inr ⟨by decide, by decide⟩
  | exact .inl ⟨by decide, by decide⟩
  | exact .inl ⟨by omega, by omega⟩
  | omega)
local macro_rules | `(tactic| k_clsL) => `(tactic| exact Nat.le_of_ble_eq_true rfl)
local macro_rules | `(tactic| k_upd) => `(tactic| simp only [L2.start, List.map_cons, List.map_nil, List.length_cons, List.length_nil, List.replicate_succ, List.replicate_zero, List.cons_append, List.nil_append, List.set_cons_zero, List.set_cons_succ])
section
variable {P : Program} {w : World} {K : PySem.W.Frag} {mg : Str → Option Value} {base : Heap}
def sp_place_of : Sp := fun vs H Q _ => ∃ x : Pr, vs = [.int x.1, .int x.2] ∧
  ∀ (H' : Hp) (p q : Addr), Same H H' → H p = none → H' p = some (.tup [.ref q, .int ((1 <<< bitP x : Nat) : Int)]) → H' q = some (.tup [.int (placeP x).1, .int (placeP x).2]) → Q (.ref p) H'
theorem ok_place_of (T : Txt K mg) : FnOk P w K mg base CX0 1 T.f_place_of T.d_place_of ["row", "column"] sp_place_of := by
  refine T.F_place_of.ok sc_place_of (fun vs H Q E h => ?_) (fun cdv A outer s H vs Q E hr h => ?_)
  · obtain ⟨_, rfl, _⟩ := h
    rfl
  · obtain ⟨x, rfl, q⟩ := h
    refine ⟨_, (pss_cons (ps_set (i := 2) sc_place_of.nd rfl (.inl rfl) (pe_op op_add (pe_op op_mul (pe_op op_and (pv 0) (pe_op op_sub (pe_gcx (by rfl) T.c_SIDE) pe_int)) (pe_gcx (by rfl) T.c_SIDE)) (pe_op op_and (pv 1) (pe_op op_sub (pe_gcx (by rfl) T.c_SIDE) pe_int))))
      (pss_one (ps_ret (pe_tup (pa_cons (pe_tup (pa_cons (pe_op op_fdiv (pv 0) (pe_gcx (by rfl) T.c_SIDE)) (pa_cons (pe_op op_fdiv (pv 1) (pe_gcx (by rfl) T.c_SIDE)) pa_nil))) (pa_cons (pe_op op_shlNN pe_int (pv 2)) pa_nil)))))), ?_⟩
    k_upd
    refine ⟨_, rfl, _, _, rfl, rfl, _, _, rfl, rfl, _, _, rfl, rfl, .inr ⟨by decide, by decide⟩, _, rfl, _, _, rfl, rfl, _, _, rfl, rfl, _, _, rfl, rfl, ?_⟩
    rw [show (32 : Int) - 1 = 31 from rfl, and31, and31]
    k_upd
    have lt := bitP_lt x
    have eb : x.1 % 32 * 32 + x.2 % 32 = ((bitP x : Nat) : Int) := by
      unfold bitP
      omega
    rw [eb]
    refine ⟨_, rfl, _, _, rfl, rfl, ⟨by decide, by decide⟩, _, rfl, _, _, rfl, rfl, ⟨by decide, by decide⟩, (by k_clsL), fun p1 n1 => ?_⟩
    k_invariant "new" (n1, H1, e1, g1)
    refine ⟨_, rfl, 1, bitP x, 1, rfl, rfl, by decide, by omega, (by k_clsL), fun p2 n2 => ?_⟩
    k_invariant "new" (n2, H2, e2, g2)
    exact q H2 p2 p1 (e1.trans e2) (backS e1 n2) g2 (e2 _ _ g1)
def sp_blocks_of : Sp := fun vs H Q _ => ∃ (l : Addr) (ps : List Pr), vs = [.ref l] ∧ Cells H l ps ∧ ps.length < 10000 ∧
  ∀ (H' : Hp) (d : Addr), H d = none → Same H H' → Dct H' d (plK ps) (fun p => .int (bkP ps p : Nat)) → Q (.ref d) H'
theorem ok_blocks_of (T : Txt K mg) : FnOk P w K mg base CX0 2 T.f_blocks_of T.d_blocks_of ["cells"] sp_blocks_of := by
  refine T.F_blocks_of.ok sc_blocks_of (fun vs H Q E h => ?_) (fun cdv A outer s H vs Q E hr h => ?_)
  · obtain ⟨_, _, rfl, _⟩ := h
    rfl
  · obtain ⟨l, ps, rfl, hC, few, q⟩ := h
    have hu : (A.deeper (envOfC (Str.ofString "blocks_of") (defScope s_blocks_of) s.heap.objs.size T.f_blocks_of cdv)).units + 1 < cLine := by
      have := hr.units
      omega
    refine ⟨_, (pss_cons (ps_set (i := 1) sc_blocks_of.nd rfl (.inl rfl) pe_dnewT)
      (pss_cons (ps_for PassesOwn.never rfl (pi_list (pv 0)) (pg_tupK (K := K) (n := 2) rfl rfl (pgs_cons (pg_name (i := 2) sc_blocks_of.nd rfl (.inl rfl)) (pgs_cons (pg_name (i := 3) sc_blocks_of.nd rfl (.inl rfl)) pgs_nil)))
      (pss_cons (ps_asg (pe_call (ok_place_of T) (hr.mono (by decide)) (by rfl) T.g_place_of T.F_place_of.kp T.b_place_of .nil pass0 (pa_cons (pv 2) (pa_cons (pv 3) pa_nil))) (pg_tupK (K := K) (n := 2) rfl rfl (pgs_cons (pg_name (i := 4) sc_blocks_of.nd rfl (.inl rfl)) (pgs_cons (pg_name (i := 5) sc_blocks_of.nd rfl (.inl rfl)) pgs_nil))))
      (pss_one (ps_dput hu (pv 1) (pv 4) (pe_op op_orNN (pe_dget2 hu (pv 1) (pv 4) pe_int ⟨rfl, rfl, rfl, rfl⟩) (pv 5)) rfl))))
      (pss_one (ps_ret (pv 1))))), ?_⟩
    k_upd
    obtain ⟨ts, hl, ht, ets⟩ := id hC
    refine fun d nd => ?_
    k_invariant "new" (nd, H1, e1, g1)
    k_upd
    have lts : ts.length = ps.length := by rw [← ets, List.length_map]
    refine ⟨_, rfl, l, rfl, ⟨_, lst_of (e1 _ _ hl)⟩, ?_⟩
    refine for_list (K := K) (a := l) (xs := ts.map fun t => V.ref t.1) (fun i σ H' => Same H H' ∧ (∃ x2 x3 x4 x5 : Option V, σ = [some (.ref l), some (.ref d), x2, x3, x4, x5]) ∧
      Dct H' d (plK (ps.take i)) (fun p => .int (bkP (ps.take i) p : Nat)))
      ⟨e1, ⟨_, _, _, _, rfl⟩, Dct.new _ g1⟩ (fun i σ H' _ p => lst_of (p.1 _ _ hl)) ?_ ?_
    · rintro i x σ H' hi ⟨sm, ⟨x2, x3, x4, x5, rfl⟩, hD⟩
      obtain ⟨t, mt, rfl, hx⟩ := item_cells (H := H') hi rfl
      rw [ets] at hx
      have ht' := sm _ _ (ht t mt)
      refine ⟨t.1, _, rfl, tup_of ht', rfl, _, _, rfl, _, _, rfl, rfl, ?_⟩
      k_upd
      refine ⟨_, rfl, _, rfl, t.2, rfl, fun H2 p1 p2 e2 n2 g2 g3 => ?_⟩
      refine ⟨p1, _, rfl, tup_of g2, rfl, _, _, rfl, _, _, rfl, rfl, ?_⟩
      k_upd
      have hD2 := hD.up e2
      refine ⟨_, rfl, d, rfl, hD2.isD, _, rfl, _, hD2.dget (x := placeP t.2) g3, ?_⟩
      have ge : (if placeP t.2 ∈ plK (ps.take i) then some (V.int (bkP (ps.take i) (placeP t.2) : Nat)) else none : Option V).getD (.int 0) = .int (bkP (ps.take i) (placeP t.2) : Nat) := by
        by_cases z : placeP t.2 ∈ plK (ps.take i)
        · rw [if_pos z]
          rfl
        · rw [if_neg z]
          have : bkP (ps.take i) (placeP t.2) = 0 := Classical.not_not.mp fun y => z (mem_plK.mpr (bk_ne.mp y))
          rw [this]
          rfl
      rw [ge]
      have few2 : (plK (ps.take i)).length < sizeLine := by
        have := plK_len (ps.take i)
        rw [List.length_take] at this
        rw [sizeLine_eq]
        omega
      obtain ⟨H3, dp, pa⟩ := hD2.dput (x := placeP t.2) few2 g3 (.int ((bkP (ps.take i) (placeP t.2) ||| 1 <<< bitP t.2 : Nat) : Int))
      refine ⟨_, rfl, _, _, rfl, rfl, _, rfl, _, rfl, d, H3, rfl, dp, pa.mut (sm.trans e2) nd, ⟨_, _, _, _, rfl⟩, ?_⟩
      have z := pa.1
      have ek : plK (ps.take (i + 1)) = addK (plK (ps.take i)) (placeP t.2) := by
        rw [take_next hx]
        unfold plK
        rw [List.foldl_append]
        rfl
      rw [ek]
      refine z.congr fun y m => ?_
      unfold setG
      have eb : bkP (ps.take (i + 1)) y = if placeP t.2 = y then bkP (ps.take i) y ||| 1 <<< bitP t.2 else bkP (ps.take i) y := by
        rw [take_next hx]
        unfold bkP
        rw [List.foldl_append]
        rfl
      rw [eb]
      by_cases c : y = placeP t.2
      · rw [if_pos c, if_pos c.symm, c]
      · rw [if_neg c, if_neg fun e => c e.symm]
    · rintro σ H' ⟨sm, ⟨x2, x3, x4, x5, rfl⟩, hD⟩
      rw [List.length_map, lts, List.take_length] at hD
      exact ⟨_, rfl, q H' d nd sm hD⟩
def modeS (m : Nat) : Str := if m = 0 then Str.ofString "add" else if m = 1 then Str.ofString "clear" else Str.ofString "flip"
def sp_block_changed : Sp := fun vs H Q _ => ∃ (a b m : Nat), m < 3 ∧ vs = [.int (a : Int), .int (b : Int), .str (modeS m)] ∧ Q (.int (chg m a b : Nat)) H
theorem ok_block_changed (T : Txt K mg) : FnOk P w K mg base CX0 1 T.f_block_changed T.d_block_changed ["block", "other", "mode"] sp_block_changed := by
  refine T.F_block_changed.ok sc_block_changed (fun vs H Q E h => ?_) (fun cdv A outer s H vs Q E hr h => ?_)
  · obtain ⟨_, _, _, _, rfl, _⟩ := h
    rfl
  · obtain ⟨a, b, m, hm, rfl, q⟩ := h
    refine ⟨_, (pss_cons (ps_if (pt_cmpR op_eq (pv 2) pe_str (nomark _))
      (pss_one (ps_ret (pe_op op_orNN (pv 0) (pv 1))))
      pss_nil)
      (pss_cons (ps_if (pt_cmpR op_eq (pv 2) pe_str (nomark _))
      (pss_one (ps_ret (pe_op op_xorNN (pv 0) (pe_op op_andNN (pv 0) (pv 1)))))
      pss_nil)
      (pss_one (ps_ret (pe_op op_xorNN (pv 0) (pv 1)))))), ?_⟩
    have m3 : m = 0 ∨ m = 1 ∨ m = 2 := by omega
    have ne1 : ¬ (V.str (modeS 1) = V.str (Str.ofString "add")) := by decide +kernel
    have ne2 : ¬ (V.str (modeS 2) = V.str (Str.ofString "add")) := by decide +kernel
    have ne3 : ¬ (V.str (modeS 2) = V.str (Str.ofString "clear")) := by decide +kernel
    rcases m3 with e | e | e <;> subst e
    · refine ⟨_, rfl, rfl, _, rfl, ?_⟩
      rw [decide_eq_true (show V.str (modeS 0) = V.str (Str.ofString "add") from rfl)]
      refine iteT ?_
      exact ⟨_, rfl, _, rfl, _, _, rfl, rfl, q⟩
    · refine ⟨_, rfl, rfl, _, rfl, ?_⟩
      rw [decide_eq_false ne1]
      refine iteF ?_
      refine ⟨_, rfl, rfl, _, rfl, ?_⟩
      rw [decide_eq_true (show V.str (modeS 1) = V.str (Str.ofString "clear") from rfl)]
      refine iteT ?_
      exact ⟨_, rfl, _, rfl, _, rfl, _, _, rfl, rfl, _, _, rfl, rfl, q⟩
    · refine ⟨_, rfl, rfl, _, rfl, ?_⟩
      rw [decide_eq_false ne2]
      refine iteF ?_
      refine ⟨_, rfl, rfl, _, rfl, ?_⟩
      rw [decide_eq_false ne3]
      refine iteF ?_
      exact ⟨_, rfl, _, rfl, _, _, rfl, rfl, q⟩
end
end My
namespace My
open PySem PySem.Spec PyProof.Rows L2 Vx
open TL
local macro_rules | `(tactic| k_invariant "new" ($n, $H:ident, $e:ident, $h:ident)) => `(tactic| (generalize hE : upd _ _ _ = $H; obtain ⟨$e:ident, $h:ident⟩ := gen_e hE $n; clear hE))
local macro_rules | `(tactic| k_places) => `(tactic| first
  | assumption
  | exact lst_of (by assumption)
  | exact tup_of (by assumption)
  | (refine getS (by assumption) ?_; k_places)
  | (refine Same.seq (by assumption) ?_; k_places)
  | (refine tupS (by assumption) ?_; k_places)
  | (refine lst_of ?_; k_places)
  | (refine tup_of ?_; k_places))
local macro_rules | `(tactic| k_subL) => `(tactic| first
  | k_places
  | solve_by_elim (maxDepth := 10) [getS, lst_of, tup_of, Same.seq, tupS])
local macro_rules | `(tactic| k_offL) => `(tactic| first
  | (show (0 : Int) < _; first | omega | decide)
  | (refine ⟨?_, ?_⟩ <;> first | omega | decide)
  | exact .inr ⟨by decide, by decide⟩
  | exact .inl ⟨by decide, by decide⟩
  | exact .inl ⟨by omega, by omega⟩
  | omega)
local macro_rules | `(tactic| k_clsL) => `(tactic| exact Nat.le_of_ble_eq_true rfl)
local macro_rules | `(tactic| k_upd) => `(tactic| simp only [L2.start, List.map_cons, List.map_nil, List.length_cons, List.length_nil, List.replicate_succ, List.replicate_zero, List.cons_append, List.nil_append, List.set_cons_zero, List.set_cons_succ])
section
variable {P : Program} {w : World} {K : PySem.W.Frag} {mg : Str → Option Value} {base : Heap}
/-! ### a world -/
def wf (gen : Int) (ru S D : Addr) : List (Str × V) := putF "_living" (.ref D) (putF "_store" (.ref S) (putF "_rule" (.ref ru) (putF "generation" (.int gen) [])))
def WAt (C : Addr) (H : Hp) (W : Addr) (gen : Int) (ru S D : Addr) : Prop := ∃ dx, H W = some (.ins C dx (wf gen ru S D))
theorem WAt.up {C W ru S D : Addr} {gen : Int} {H H' : Hp} (h : WAt C H W gen ru S D) (e : Same H H') : WAt C H' W gen ru S D := by
  obtain ⟨dx, h⟩ := h
  exact ⟨dx, e _ _ h⟩
/-- all but one address stays -/
def Sb (D : Addr) (H H' : Hp) : Prop := ∀ b o, b ≠ D → H b = some o → H' b = some o
theorem Sb.of {D : Addr} {H H' : Hp} (e : Same H H') : Sb D H H' := fun b o _ h => e b o h
theorem Sb.trans {D : Addr} {H H1 H2 : Hp} (h : Sb D H H1) (k : Sb D H1 H2) : Sb D H H2 := fun b o n e => k b o n (h b o n e)
theorem Sb.same {D : Addr} {H0 H H' : Hp} (e : Same H0 H) (h : Sb D H H') (n : H0 D = none) : Same H0 H' := fun b o z => h b o (fun y => by rw [y, n] at z; cases z) (e b o z)
theorem LivIs.sb {H H' : Hp} {D X : Addr} {ks : List Pr} {g : Pr → Nat} (h : LivIs H D ks g) (e : Sb X H H') (n : D ≠ X) : LivIs H' D ks g := by
  obtain ⟨⟨kvs, h1, h2⟩, h3, h4⟩ := h
  exact ⟨⟨kvs, e _ _ n h1, h2⟩, h3, h4⟩
theorem WAt.sb {C W X ru S D : Addr} {gen : Int} {H H' : Hp} (h : WAt C H W gen ru S D) (e : Sb X H H') (n : W ≠ X) : WAt C H' W gen ru S D := by
  obtain ⟨dx, h⟩ := h
  exact ⟨dx, e _ _ n h⟩
theorem Cells.sb {H H' : Hp} {l X : Addr} {ps : List Pr} {kvs : List (List L2.Key × V)} (h : Cells H l ps) (hX : H X = some (.dT kvs)) (e : Sb X H H') : Cells H' l ps := by
  obtain ⟨ts, h1, h2, h3⟩ := h
  refine ⟨ts, e _ _ (fun z => by rw [z, hX] at h1; cases h1) h1, fun t m => e _ _ (fun z => by
    have := h2 t m
    rw [z, hX] at this
    cases this) (h2 t m), h3⟩
theorem LivIs.put {H H' : Hp} {D : Addr} {ks : List Pr} {g : Pr → Nat} {p : Pr} {n : Nat} (h : LivIs H D ks g) (n0 : n ≠ 0) (nl : n < 2 ^ 1024) (pa : PutAt H D ks (fun p => .int (g p : Nat)) p (.int (n : Nat)) H') :
    LivIs H' D (addK ks p) (fun y => if y = p then n else g y) := by
  refine ⟨pa.1.congr fun y _ => ?_, fun y => ?_, fun y => ?_⟩
  · unfold setG
    by_cases c : y = p
    · rw [if_pos c, if_pos c]
    · rw [if_neg c, if_neg c]
  · rw [addK_mem]
    by_cases c : y = p
    · rw [if_pos c]
      exact ⟨fun _ => n0, fun _ => .inr c⟩
    · rw [if_neg c]
      exact ⟨fun m => (h.pos y).mp (m.resolve_right c), fun z => .inl ((h.pos y).mpr z)⟩
  · show (if y = p then n else g y) < _
    by_cases c : y = p
    · rw [if_pos c]
      exact nl
    · rw [if_neg c]
      exact h.lt y
theorem LivIs.drop {H : Hp} {D : Addr} {ks : List Pr} {g : Pr → Nat} {kvs : List (List L2.Key × V)} (h : LivIs H D ks g) (hm : MapP kvs ks (fun p => .int (g p : Nat))) (p : Pr) :
    LivIs (upd H D (.dT (dropK kvs (keyP p)))) D (ks.filter fun y => decide (y ≠ p)) (fun y => if y = p then 0 else g y) := by
  refine ⟨⟨_, upd_same, (hm.drop p).congr fun y m => ?_⟩, fun y => ?_, fun y => ?_⟩
  · have c : ¬ y = p := of_decide_eq_true (List.mem_filter.mp m).2
    show V.int ((g y : Nat) : Int) = V.int (((if y = p then 0 else g y : Nat)) : Int)
    rw [if_neg c]
  · rw [List.mem_filter, decide_eq_true_eq]
    by_cases c : y = p
    · rw [if_pos c]
      exact ⟨fun m => absurd c m.2, fun z => absurd rfl z⟩
    · rw [if_neg c]
      exact ⟨fun m => (h.pos y).mp m.1, fun z => ⟨(h.pos y).mpr z, c⟩⟩
  · show (if y = p then 0 else g y) < _
    by_cases c : y = p
    · rw [if_pos c]
      exact Nat.two_pow_pos 1024
    · rw [if_neg c]
      exact h.lt y
theorem LivIs.gone {H : Hp} {D : Addr} {ks : List Pr} {g : Pr → Nat} (h : LivIs H D ks g) {p : Pr} (n : p ∉ ks) : LivIs H D ks (fun y => if y = p then 0 else g y) := by
  have e : (fun y => if y = p then 0 else g y) = g := funext fun y => by
    by_cases c : y = p
    · rw [if_pos c, c]
      exact (Classical.not_not.mp fun z => n ((h.pos p).mpr z)).symm
    · rw [if_neg c]
  rw [e]
  exact h
theorem LivIs.getD {H : Hp} {D : Addr} {ks : List Pr} {g : Pr → Nat} (h : LivIs H D ks g) (p : Pr) : (if p ∈ ks then some (V.int (g p : Nat)) else none : Option V).getD (.int 0) = .int (g p : Nat) := by
  by_cases m : p ∈ ks
  · rw [if_pos m]
    rfl
  · rw [if_neg m]
    have : g p = 0 := Classical.not_not.mp fun z => m ((h.pos p).mpr z)
    rw [this]
    rfl
def sp_World_init (C : Addr) : Sp := fun vs H Q _ => ∃ (H0 : Hp) (W ru dx : Addr), vs = [.ref W, .ref ru] ∧ Same H0 H ∧ H0 W = none ∧ H W = some (.ins C dx []) ∧
  ∀ (H' : Hp) (S D : Addr), Same H0 H' → H0 D = none → D ≠ W → WAt C H' W 0 ru S D → LivIs H' D [] (fun _ => 0) → Q .non H'
theorem ok_World_init (T : Txt K mg) : FnOk P w K mg base CX0 6 T.f_World_init T.d_World_init ["self", "rule"] (sp_World_init T.C_World) := by
  refine T.F_World_init.ok sc_World_init (fun vs H Q E h => ?_) (fun cdv A outer s H vs Q E hr h => ?_)
  · obtain ⟨_, _, _, _, rfl, _⟩ := h
    rfl
  · obtain ⟨H0, W, ru, dx, rfl, sm, n0, ho, q⟩ := h
    refine ⟨_, (pss_cons (ps_fld (pv 0) pe_int rfl)
      (pss_cons (ps_fld (pv 0) (pv 1) rfl)
      (pss_cons (ps_fld (pv 0) (pe_make T.M_Store (ok_Store_init T) (hr.mono (by decide)) rfl T.g_Store T.b_Store_init .nil pass0 (pa_cons (pv 1) pa_nil)) rfl)
      (pss_one (ps_fld (pv 0) pe_dnewT rfl))))), ?_⟩
    k_upd
    refine ⟨_, rfl, W, _, _, _, rfl, ho, T.cl_World, T.na_World_generation, by decide, ?_⟩
    refine ⟨_, rfl, _, rfl, W, _, _, _, rfl, upd_same, T.cl_World, T.na_World__rule, by k_clsL, ?_⟩
    have s1 : Same H0 (upd (upd H W (.ins T.C_World dx (putF "generation" (.int 0) []))) W (.ins T.C_World dx (putF "_rule" (.ref ru) (putF "generation" (.int 0) [])))) := mutS (mutS sm n0) n0
    have g1 : upd (upd H W (.ins T.C_World dx (putF "generation" (.int 0) []))) W (.ins T.C_World dx (putF "_rule" (.ref ru) (putF "generation" (.int 0) []))) W = some (.ins T.C_World dx (putF "_rule" (.ref ru) (putF "generation" (.int 0) []))) := upd_same
    generalize upd (upd H W (.ins T.C_World dx (putF "generation" (.int 0) []))) W (.ins T.C_World dx (putF "_rule" (.ref ru) (putF "generation" (.int 0) []))) = H1 at s1 g1 ⊢
    refine ⟨_, rfl, fun S dS nS ndS ne => ?_⟩
    refine ⟨H1, S, ru, dS, rfl, madeS nS ndS, nS, upd_same, fun H2 A eA fr hS => ⟨rfl, ?_⟩⟩
    have s2 : Same H1 H2 := fr.trans hide_le
    refine ⟨_, rfl, W, _, _, _, rfl, s2 _ _ g1, T.cl_World, T.na_World__store, by k_clsL, ?_⟩
    have s3 : Same H0 (upd H2 W (.ins T.C_World dx (putF "_store" (.ref S) (putF "_rule" (.ref ru) (putF "generation" (.int 0) []))))) := mutS (s1.trans s2) n0
    have g3 : upd H2 W (.ins T.C_World dx (putF "_store" (.ref S) (putF "_rule" (.ref ru) (putF "generation" (.int 0) [])))) W = some (.ins T.C_World dx (putF "_store" (.ref S) (putF "_rule" (.ref ru) (putF "generation" (.int 0) [])))) := upd_same
    generalize upd H2 W (.ins T.C_World dx (putF "_store" (.ref S) (putF "_rule" (.ref ru) (putF "generation" (.int 0) [])))) = H3 at s3 g3 ⊢
    refine fun D nD => ?_
    k_invariant "new" (nD, H4, e4, g4)
    have nDW : D ≠ W := fun e => by rw [e, g3] at nD; cases nD
    refine ⟨_, rfl, W, _, _, _, rfl, e4 _ _ g3, T.cl_World, T.na_World__living, by k_clsL, ?_⟩
    refine q _ S D (mutS (s3.trans e4) n0) (backS s3 nD) nDW ⟨dx, upd_same⟩ ⟨(Dct.new _ g4).off nDW, fun p => ⟨fun m => (by cases m), fun z => absurd rfl z⟩, fun _ => Nat.two_pow_pos 1024⟩
def sp_World_tidy (C : Addr) : Sp := fun vs H Q _ => ∃ (W ru S D : Addr) (gen : Int), vs = [.ref W] ∧ WAt C H W gen ru S D ∧ ∀ (H' : Hp) (S' : Addr), Sb W H H' → WAt C H' W gen ru S' D → Q .non H'
theorem ok_World_tidy (T : Txt K mg) : FnOk P w K mg base CX0 6 T.f_World_tidy T.d_World_tidy ["self"] (sp_World_tidy T.C_World) := by
  refine T.F_World_tidy.ok sc_World_tidy (fun vs H Q E h => ?_) (fun cdv A outer s H vs Q E hr h => ?_)
  · obtain ⟨_, _, _, _, _, rfl, _⟩ := h
    rfl
  · obtain ⟨W, ru, S, D, gen, rfl, ⟨dx, ho⟩, q⟩ := h
    refine ⟨_, (pss_one (ps_fld (pv 0) (pe_make T.M_Store (ok_Store_init T) (hr.mono (by decide)) rfl T.g_Store T.b_Store_init .nil pass0 (pa_cons (pe_fld (pv 0) rfl) pa_nil)) rfl)), ?_⟩
    k_upd
    refine ⟨_, rfl, W, _, _, _, _, rfl, ho, T.cl_World, T.na_World__rule, rfl, fun S' dS nS ndS ne => ?_⟩
    refine ⟨H, S', ru, dS, rfl, madeS nS ndS, nS, upd_same, fun H2 A eA fr hS => ⟨rfl, ?_⟩⟩
    have s2 : Same H H2 := fr.trans hide_le
    refine ⟨_, rfl, W, _, _, _, rfl, s2 _ _ ho, T.cl_World, T.na_World__store, by k_clsL, ?_⟩
    exact q _ S' (fun b o n e => by rw [upd_ne n]; exact s2 _ _ e) ⟨dx, upd_same⟩
def sp_World_alive (C : Addr) : Sp := fun vs H Q _ => ∃ (W ru S D : Addr) (gen : Int) (ks : List Pr) (g : Pr → Nat) (x : Pr), vs = [.ref W, .int x.1, .int x.2] ∧ WAt C H W gen ru S D ∧ LivIs H D ks g ∧ ∀ H', Same H H' → Q (.bl (inB g x)) H'
theorem and_pow_bit (a n : Nat) : (!decide ((((a &&& 1 <<< n : Nat) : Int)) = 0)) = a.testBit n := by
  have e : a &&& 1 <<< n = if a.testBit n then 2 ^ n else 0 := by
    rw [Nat.one_shiftLeft]
    refine Nat.eq_of_testBit_eq fun i => ?_
    rw [Nat.testBit_and, Nat.testBit_two_pow]
    by_cases c : n = i
    · subst c
      cases h : a.testBit n
      · rw [if_neg (by decide), Nat.zero_testBit]
        rfl
      · rw [if_pos rfl, Nat.testBit_two_pow]
        rfl
    · rw [decide_eq_false c, Bool.and_false]
      cases h : a.testBit n
      · rw [if_neg (by decide), Nat.zero_testBit]
      · rw [if_pos rfl, Nat.testBit_two_pow, decide_eq_false c]
  rw [e]
  cases h : a.testBit n
  · rw [if_neg (by decide)]
    rfl
  · rw [if_pos rfl, decide_eq_false]
    · rfl
    · have := Nat.two_pow_pos n
      omega
theorem ok_World_alive (T : Txt K mg) : FnOk P w K mg base CX0 2 T.f_World_alive T.d_World_alive ["self", "row", "column"] (sp_World_alive T.C_World) := by
  refine T.F_World_alive.ok sc_World_alive (fun vs H Q E h => ?_) (fun cdv A outer s H vs Q E hr h => ?_)
  · obtain ⟨_, _, _, _, _, _, _, _, rfl, _⟩ := h
    rfl
  · obtain ⟨W, ru, S, D, gen, ks, g, x, rfl, hW, hL, q⟩ := h
    have hu : (A.deeper (envOfC (Str.ofString "World.alive") (defScope s_World_alive) s.heap.objs.size T.f_World_alive cdv)).units + 1 < cLine := by
      have := hr.units
      omega
    refine ⟨_, (pss_cons (ps_asg (pe_call (ok_place_of T) (hr.mono (by decide)) (by rfl) T.g_place_of T.F_place_of.kp T.b_place_of .nil pass0 (pa_cons (pv 1) (pa_cons (pv 2) pa_nil))) (pg_tupK (K := K) (n := 2) rfl rfl (pgs_cons (pg_name (i := 3) sc_World_alive.nd rfl (.inl rfl)) (pgs_cons (pg_name (i := 4) sc_World_alive.nd rfl (.inl rfl)) pgs_nil))))
      (pss_one (ps_ret (pe_cmpR op_ne (pe_op op_andNN (pe_dget2 hu (pe_fld (pv 0) rfl) (pv 3) pe_int ⟨rfl, rfl, rfl, rfl⟩) (pv 4)) pe_int (nomark _))))), ?_⟩
    k_upd
    refine ⟨_, rfl, _, rfl, x, rfl, fun H1 p1 p2 e1 n1 g1 g2 => ?_⟩
    refine ⟨p1, _, rfl, tup_of g1, rfl, _, _, rfl, _, _, rfl, rfl, ?_⟩
    k_upd
    obtain ⟨dx, ho⟩ := hW.up e1
    have hL1 := hL.up e1
    refine ⟨_, rfl, W, _, _, _, _, rfl, ho, T.cl_World, T.na_World__living, rfl, D, rfl, hL1.dct.isD, _, rfl, _, hL1.dct.dget (x := placeP x) g2, ?_⟩
    rw [hL1.getD]
    refine ⟨_, rfl, _, _, rfl, rfl, rfl, ?_⟩
    have eb : (!decide (V.int (((g (placeP x) &&& 1 <<< bitP x : Nat)) : Int) = V.int 0)) = inB g x := by
      show _ = (g (placeP x)).testBit (bitP x)
      rw [← and_pow_bit]
      exact congrArg Bool.not (decide_eq_decide.mpr ⟨fun e => V.int.inj e, fun e => by rw [e]⟩)
    rw [eb]
    exact q H1 e1
def sp_World_paste (C : Addr) : Sp := fun vs H Q _ => ∃ (W ru S D l : Addr) (gen : Int) (ks : List Pr) (g : Pr → Nat) (ps : List Pr) (r c : Int) (m : Nat), m < 3 ∧ vs = [.ref W, .ref l, .int r, .int c, .str (modeS m)] ∧ WAt C H W gen ru S D ∧ LivIs H D ks g ∧
  W ≠ D ∧ ks.length < 100000 ∧ Cells H l ps ∧ ps.length < 1000 ∧ ∀ (H' : Hp) (ks' : List Pr) (g' : Pr → Nat), Sb D H H' → LivIs H' D ks' g' → ks'.length ≤ ks.length + ps.length → (∀ x, inB g' x = chgB m (inB g x) (decide (x ∈ ps.map fun y => (y.1 + r, y.2 + c)))) → Q .non H'
theorem ok_World_paste (T : Txt K mg) : FnOk P w K mg base CX0 3 T.f_World_paste T.d_World_paste ["self", "cells", "row", "column", "mode"] (sp_World_paste T.C_World) := by
  refine T.F_World_paste.ok sc_World_paste (fun vs H Q E h => ?_) (fun cdv A outer s H vs Q E hr h => ?_)
  · obtain ⟨_, _, _, _, _, _, _, _, _, _, _, _, _, rfl, _⟩ := h
    rfl
  · obtain ⟨W, ru, S, D, l, gen, ks, g, ps, r, c, m, m3, rfl, hW, hL, nWD, fk, hC, few, q⟩ := h
    have hu : (A.deeper (envOfC (Str.ofString "World.paste") (defScope s_World_paste) s.heap.objs.size T.f_World_paste cdv)).units + 1 < cLine := by
      have := hr.units
      omega
    refine ⟨_, (pss_cons (ps_set (i := 5) sc_World_paste.nd rfl (.inl rfl) (pe_call (ok_blocks_of T) (hr.mono (by decide)) (by rfl) T.g_blocks_of T.F_blocks_of.kp T.b_blocks_of .nil pass0 (pa_cons (pe_lc (own := [("down", 9), ("beside", 10)]) (tt := tYes) rfl sc_World_paste.nd (pi_list (pv 1)) (blkOk_by (own := [("down", 9), ("beside", 10)]) (N := N_World_paste) (sc := defScope s_World_paste) (by decide +kernel)) (fun _ _ _ _ _ => (pg_tupK (K := K) (n := 2) rfl rfl (pgs_cons (pg_name (i := 9) sc_World_paste.nd rfl (.inl rfl)) (pgs_cons (pg_name (i := 10) sc_World_paste.nd rfl (.inl rfl)) pgs_nil)))) (fun _ _ _ _ _ => pts_nil) (fun _ _ _ _ _ => (pe_tup (pa_cons (pe_op op_add (pv 9) (pv 2)) (pa_cons (pe_op op_add (pv 10) (pv 3)) pa_nil))))) pa_nil)))
      (pss_one (ps_lock (ps_for PassesOwn.never rfl (pi_itemsT (pv 5)) (pg_tupK (K := K) (n := 2) rfl rfl (pgs_cons (pg_name (i := 6) sc_World_paste.nd rfl (.inl rfl)) (pgs_cons (pg_name (i := 7) sc_World_paste.nd rfl (.inl rfl)) pgs_nil)))
      (pss_cons (ps_set (i := 8) sc_World_paste.nd rfl (.inl rfl) (pe_call (ok_block_changed T) (hr.mono (by decide)) (by rfl) T.g_block_changed T.F_block_changed.kp T.b_block_changed .nil pass0 (pa_cons (pe_dget2 hu (pe_fld (pv 0) rfl) (pv 6) pe_int ⟨rfl, rfl, rfl, rfl⟩) (pa_cons (pv 7) (pa_cons (pv 4) pa_nil)))))
      (pss_one (ps_if (pt_truth (pv 8) (by intro _; rfl))
      (pss_one (ps_dput hu (pe_fld (pv 0) rfl) (pv 6) (pv 8) rfl))
      (pss_one (ps_expr (pe_bm PySem.F.plainAttrs_dict PySem.F.slot_dict_pop PySem.F.type_dict_pop (L2.DX.mt_popT hu) (pe_fld (pv 0) rfl) (pa_cons (pv 6) (pa_cons pe_non pa_nil)))))))))))), ?_⟩
    k_upd
    obtain ⟨ts, hl, ht, ets⟩ := id hC
    refine ⟨_, rfl, _, rfl, ⟨_, lst_of hl⟩, fun D1 nD1 => lc_cells (fun y => (y.1 + r, y.2 + c)) hC nD1 (by rw [sizeLine_eq]; omega) (fun t x H' Po Pn _ ht hq => ?_) fun H1 e1 h1 => ?_⟩
    · exact ⟨t, _, rfl, tup_of ht, rfl, _, _, rfl, _, _, rfl, rfl, rfl, tyesT ⟨_, rfl, _, rfl, _, _, rfl, rfl, _, rfl, _, rfl, _, _, rfl, rfl, (by k_clsL), fun t2 n2 => hq t2 n2⟩⟩
    obtain ⟨qs, eqs⟩ : ∃ qs, qs = ps.map fun y => (y.1 + r, y.2 + c) := ⟨_, rfl⟩
    rw [← eqs] at h1
    have lqs : qs.length = ps.length := by rw [eqs, List.length_map]
    refine ⟨_, qs, rfl, h1, by omega, fun H2 d nd e2 hB => ?_⟩
    k_upd
    have hW2 := (hW.up e1).up e2
    have hL2 := (hL.up e1).up e2
    obtain ⟨dx, ho⟩ := hW2
    obtain ⟨kvs, hd, hm⟩ := id hB
    have s2 : Same H H2 := e1.trans e2
    have ndH : H d = none := backS e1 nd
    have nDd : D ≠ d := fun e => by
      obtain ⟨kv, z, _⟩ := hL.dct
      rw [e, ndH] at z
      cases z
    have nWd : W ≠ d := fun e => by rw [e, hd] at ho; cases ho
    refine ⟨d, _, hd, trivial, fun od => ⟨_, rfl, d, od, kvs, rfl, upd_same, ?_⟩⟩
    obtain ⟨Hf, hHf⟩ : ∃ Hf, Hf = upd H2 d (.frz od (.dT kvs)) := ⟨_, rfl⟩
    rw [← hHf]
    have gf : Hf d = some (.frz od (.dT kvs)) := by rw [hHf, upd_same]
    have hof : Hf W = some (.ins T.C_World dx (wf gen ru S D)) := by rw [hHf, upd_ne nWd]; exact ho
    have hLf : LivIs Hf D ks g := ⟨by rw [hHf]; exact hL2.dct.off nDd, hL2.pos, hL2.lt⟩
    refine for_it walk_itemsT (fun i σ H' => ∃ (ks' : List Pr) (g' : Pr → Nat) (x6 x7 x8 x9 x10 : Option V), σ = [some (.ref W), some (.ref l), some (.int r), some (.int c), some (.str (modeS m)), some (.ref d), x6, x7, x8, x9, x10] ∧ Sb D Hf H' ∧ LivIs H' D ks' g' ∧ ks'.length ≤ ks.length + i ∧
        (∀ p, g' p = if p ∈ (plK qs).take i then chg m (g p) (bkP qs p) else g p))
      ⟨ks, g, _, _, _, _, _, rfl, Sb.of (Same.refl _), hLf, Nat.le_refl _, fun p => by rw [if_neg]; simp⟩ (fun i σ H' _ p => by
        obtain ⟨_, _, _, _, _, _, _, _, sb, _⟩ := p
        exact sb _ _ nDd.symm gf) ?_ ?_
    · rintro i x σ H3 H4 hi ⟨ks', g', x6, x7, x8, x9, x10, rfl, sb, hL3, lk, hg⟩ ⟨tt, k, v, q0, e, rfl, hq0, nt, rfl⟩
      obtain ⟨z, hz, rfl, rfl⟩ := hm.at e
      have li : i < (plK qs).length := (List.getElem?_eq_some_iff.mp hz).1
      have zq : z ∈ plK qs := List.mem_of_getElem? hz
      have lq := plK_len qs
      have nq : q0 ≠ D := fun e => by
        obtain ⟨kv, y, _⟩ := hL3.dct
        rw [e, y] at hq0
        cases hq0
      k_invariant "new" (nt, H4, e4, g4)
      have hq4 : H4 q0 = some (.tup [.int z.1, .int z.2]) := e4 _ _ hq0
      have ho4 : H4 W = some (.ins T.C_World dx (wf gen ru S D)) := e4 _ _ (sb _ _ nWD hof)
      have hL4 := hL3.up e4
      have gz : g' z = g z := by
        rw [hg, if_neg]
        exact nodup_next hm.2 hz
      have step : ∀ p, (if p = z then chg m (g z) (bkP qs z) else g' p) = if p ∈ (plK qs).take (i + 1) then chg m (g p) (bkP qs p) else g p := fun p => by
        rw [take_next hz, hg]
        by_cases c : p = z
        · rw [if_pos c, if_pos (List.mem_append.mpr (.inr (List.mem_singleton.mpr c))), c]
        · rw [if_neg c]
          by_cases c2 : p ∈ (plK qs).take i
          · rw [if_pos c2, if_pos (List.mem_append.mpr (.inl c2))]
          · rw [if_neg c2, if_neg fun y => (List.mem_append.mp y).elim c2 fun y => c (List.mem_singleton.mp y)]
      refine ⟨tt, _, rfl, tup_of g4, rfl, _, _, rfl, _, _, rfl, rfl, ?_⟩
      k_upd
      refine ⟨_, rfl, W, _, _, _, _, rfl, ho4, T.cl_World, T.na_World__living, rfl, D, rfl, hL4.dct.isD, _, rfl, _, hL4.dct.dget (x := z) hq4, ?_⟩
      rw [hL4.getD, gz]
      refine ⟨_, rfl, _, rfl, _, _, m, m3, rfl, ?_⟩
      k_upd
      have cl := chg_lt (m := m) (hL.lt z) (bk_lt qs z)
      by_cases c0 : chg m (g z) (bkP qs z) = 0
      · refine ⟨_, rfl, _, tru0 c0, iteF ?_⟩
        obtain ⟨kv4, y1, y2⟩ := id hL4.dct
        refine ⟨_, rfl, W, _, _, _, _, rfl, ho4, T.cl_World, T.na_World__living, rfl, .inr (.inr (.inl ⟨rfl, .inr ⟨_, y1⟩⟩)), _, rfl, D, kv4, keyP z, q0, _, rfl, rfl, y1, hq4, fun v hv => ?_, fun hv => ?_⟩
        · refine ⟨_, _, _, _, _, _, _, rfl, fun b o n h => ?_, hL4.drop y2 z, ?_, fun p => ?_⟩
          · rw [upd_ne n]
            exact e4 _ _ (sb _ _ n h)
          · have := List.length_filter_le (fun y => decide (y ≠ z)) ks'
            omega
          · rw [← step, c0]
        · have zn : z ∉ ks' := fun y => by
            rw [y2.get, if_pos y] at hv
            cases hv
          refine ⟨_, _, _, _, _, _, _, rfl, sb.trans (Sb.of e4), hL4.gone zn, by omega, fun p => ?_⟩
          rw [← step, c0]
      · refine ⟨_, rfl, _, tru1 c0, iteT ?_⟩
        obtain ⟨H5, dp, pa⟩ := hL4.dct.dput (x := z) (by rw [sizeLine_eq]; omega) hq4 (.int ((chg m (g z) (bkP qs z) : Nat) : Int))
        refine ⟨_, rfl, _, rfl, W, _, _, _, _, rfl, ho4, T.cl_World, T.na_World__living, rfl, _, rfl, D, H5, rfl, dp, ?_⟩
        have := addK_len ks' z
        refine ⟨_, _, _, _, _, _, _, rfl, fun b o n h => ?_, hL4.put c0 cl pa, by omega, fun p => step p⟩
        rw [pa.2 b n]
        exact e4 _ _ (sb _ _ n h)
    · rintro σ H3 ⟨ks', g', x6, x7, x8, x9, x10, rfl, sb, hL3, lk, hg⟩
      have lq := plK_len qs
      rw [hm.len] at hg lk
      rw [List.take_length] at hg
      refine ⟨sb _ _ nDd.symm gf, ?_⟩
      refine q (upd H3 d (.dT kvs)) ks' g' (fun b o n h => ?_) ⟨hL3.dct.off nDd, hL3.pos, hL3.lt⟩ (by omega) fun x => ?_
      · have nb : b ≠ d := fun e => by rw [e, ndH] at h; cases h
        rw [upd_ne nb]
        refine sb _ _ n ?_
        rw [hHf, upd_ne nb]
        exact s2 _ _ h
      · rw [← eqs]
        unfold inB
        rw [hg]
        by_cases c : placeP x ∈ plK qs
        · rw [if_pos c, chg_bit]
          congr 1
          rw [Bool.eq_iff_iff, decide_eq_true_eq]
          exact bk_in
        · rw [if_neg c]
          have : x ∉ qs := fun y => c (mem_plK.mpr ⟨x, y, rfl⟩)
          rw [decide_eq_false this, chgB_no]
end
end My
namespace My
open PySem PySem.Spec PyProof.Rows L2 Vx
open TL
local macro_rules | `(tactic| k_invariant "new" ($n, $H:ident, $e:ident, $h:ident)) => `(tactic| (generalize hE : upd _ _ _ = $H; obtain ⟨$e:ident, $h:ident⟩ := gen_e hE $n; clear hE))
local macro_rules | `(tactic| k_places) => `(tactic| first
  | assumption
  | exact lst_of (by assumption)
  | exact tup_of (by assumption)
  | (refine getS (by assumption) ?_; k_places)
  | (refine Same.seq (by assumption) ?_; k_places)
  | (refine tupS (by assumption) ?_; k_places)
  | (refine lst_of ?_; k_places)
  | (refine tup_of ?_; k_places))
local macro_rules | `(tactic| k_subL) => `(tactic| first
  | k_places
  | solve_by_elim (maxDepth := 10) [getS, lst_of, tup_of, Same.seq, tupS])
local macro_rules | `(tactic| k_offL) => `(tactic| first
  | (show (0 : Int) < _; first | omega | decide)
  | (refine ⟨?_, ?_⟩ <;> first | omega | decide)
  | exact .inr ⟨by decide, by decide⟩
  | exact .inl ⟨by decide, by decide⟩
  | exact .inl ⟨by omega, by omega⟩
  | omega)
local macro_rules | `(tactic| k_clsL) => `(tactic| exact Nat.le_of_ble_eq_true rfl)
local macro_rules | `(tactic| k_upd) => `(tactic| simp only [L2.start, List.map_cons, List.map_nil, List.length_cons, List.length_nil, List.replicate_succ, List.replicate_zero, List.cons_append, List.nil_append, List.set_cons_zero, List.set_cons_succ])
section
variable {P : Program} {w : World} {K : PySem.W.Frag} {mg : Str → Option Value} {base : Heap}
theorem Same.rd {H H' : Hp} (e : Same H H') {a : Addr} {u : HO} (h : Rd H a u) : Rd H' a u := h.elim (fun z => .inl (e _ _ z)) fun ⟨o, z⟩ => .inr ⟨o, e _ _ z⟩
theorem cellsW_next {ps : List Pr} {g : Pr → Nat} {i : Nat} {z : Pr} (h : ps[i]? = some z) : cellsW (ps.take (i + 1)) g = cellsW (ps.take i) g ++ cellsAt z (g z) := by
  unfold cellsW
  rw [take_next h, List.map_append, List.flatten_append]
  congr 1
  show cellsAt z (g z) ++ [] = _
  rw [List.append_nil]
theorem cellsW_sub (ps : List Pr) (g : Pr → Nat) {n : Nat} : (cellsW (ps.take n) g).length ≤ (cellsW ps g).length := by
  conv => rhs; rw [← List.take_append_drop n ps]
  unfold cellsW
  rw [List.map_append, List.flatten_append, List.length_append]
  omega
def sp_cells_of_blocks (C : Addr) : Sp := fun vs H Q _ => ∃ (W ru S D a : Addr) (gen : Int) (ks : List Pr) (g : Pr → Nat) (ps : List Pr), vs = [.ref W, .ref a] ∧ WAt C H W gen ru S D ∧ LivIs H D ks g ∧ (a = D ∧ ps = ks ∨ Cells H a ps) ∧ (∀ p ∈ ps, p ∈ ks) ∧ ps.length < 1000000 ∧
  (cellsW ps g).length < 1000000 ∧ ∀ (H' : Hp) (p : Addr), H p = none → Same H H' → Cells H' p (cellsW ps g) → Q (.ref p) H'
theorem ok_World_cells_of_blocks (T : Txt K mg) : FnOk P w K mg base CX0 2 T.f_World_cells_of_blocks T.d_World_cells_of_blocks ["self", "places"] (sp_cells_of_blocks T.C_World) := by
  refine T.F_World_cells_of_blocks.ok sc_World_cells_of_blocks (fun vs H Q E h => ?_) (fun cdv A outer s H vs Q E hr h => ?_)
  · obtain ⟨_, _, _, _, _, _, _, _, _, rfl, _⟩ := h
    rfl
  · obtain ⟨W, ru, S, D, a, gen, ks, g, ps, rfl, ⟨dx, ho⟩, hL, ha, sub, fewp, few, q⟩ := h
    have hu : (A.deeper (envOfC (Str.ofString "World._cells_of_blocks") (defScope s_World_cells_of_blocks) s.heap.objs.size T.f_World_cells_of_blocks cdv)).units + 1 < cLine := by
      have := hr.units
      omega
    obtain ⟨kvs, hd, hm⟩ := id hL.dct
    rcases ha with ⟨ea, ep⟩ | hC
    · have ea := ea.symm
      subst ea ep
      refine ⟨_, (pss_cons (ps_set (i := 2) sc_World_cells_of_blocks.nd rfl (.inl rfl) (pe_lst pa_nil))
      (pss_cons (ps_lock (ps_for PassesOwn.never rfl (pi_keys (pv 1)) (pg_tupK (K := K) (n := 2) rfl rfl (pgs_cons (pg_name (i := 3) sc_World_cells_of_blocks.nd rfl (.inr rfl)) (pgs_cons (pg_name (i := 4) sc_World_cells_of_blocks.nd rfl (.inr rfl)) pgs_nil)))
      (pss_cons (ps_set (i := 5) sc_World_cells_of_blocks.nd rfl (.inl rfl) (pe_call (ok_block_cells T) (hr.mono (by decide)) (by rfl) T.g_block_cells T.F_block_cells.kp T.b_block_cells .nil pass0 (pa_cons (pe_dget hu (pe_fld (pv 0) rfl) (pe_tup (pa_cons (pv 3) (pa_cons (pv 4) pa_nil))) (fun _ _ => rfl)) pa_nil)))
      (pss_one (ps_expr (pe_bm PySem.F.plainAttrs_list PySem.F.slot_list_extend PySem.F.type_list_extend mt_extend (pv 2) (pa_cons (pe_lc (own := [("down", 6), ("beside", 7)]) (tt := tYes) rfl sc_World_cells_of_blocks.nd (pi_list (pv 5)) (blkOk_by (own := [("down", 6), ("beside", 7)]) (N := N_World_cells_of_blocks) (sc := defScope s_World_cells_of_blocks) (by decide +kernel)) (fun _ _ _ _ _ => (pg_tupK (K := K) (n := 2) rfl rfl (pgs_cons (pg_name (i := 6) sc_World_cells_of_blocks.nd rfl (.inl rfl)) (pgs_cons (pg_name (i := 7) sc_World_cells_of_blocks.nd rfl (.inl rfl)) pgs_nil)))) (fun _ _ _ _ _ => pts_nil) (fun _ _ _ _ _ => (pe_tup (pa_cons (pe_op op_add (pe_op op_mul (pv 3) (pe_gcx (by rfl) T.c_SIDE)) (pv 6)) (pa_cons (pe_op op_add (pe_op op_mul (pv 4) (pe_gcx (by rfl) T.c_SIDE)) (pv 7)) pa_nil))))) pa_nil)))))))
      (pss_one (ps_ret (pv 2))))), ?_⟩
      k_upd
      refine ⟨by k_clsL, fun p np => ?_⟩
      k_invariant "new" (np, H1, e1, g1)
      k_upd
      refine ⟨D, _, e1 _ _ hd, trivial, fun od => ⟨_, rfl, D, od, rfl, .inr ⟨kvs, upd_same, ?_⟩⟩⟩
      have nWD : W ≠ D := fun e => by rw [e, hd] at ho; cases ho
      have npD : p ≠ D := fun e => by rw [e, hd] at np; cases np
      obtain ⟨Hf, hHf⟩ : ∃ Hf, Hf = upd H1 D (.frz od (.dT kvs)) := ⟨_, rfl⟩
      rw [← hHf]
      have gf : Hf D = some (.frz od (.dT kvs)) := by rw [hHf, upd_same]
      have hof : Hf W = some (.ins T.C_World dx (wf gen ru S D)) := by rw [hHf, upd_ne nWD]; exact e1 _ _ ho
      have gp : Hf p = some (.lst []) := by rw [hHf, upd_ne npD]; exact g1
      have rd : Rd Hf D (.dT kvs) := .inr ⟨od, gf⟩
      have un : ∀ {H' : Hp}, (∀ b o, b ≠ p → Hf b = some o → H' b = some o) → Same H (upd H' D (.dT kvs)) := fun {H'} e b o h => by
        by_cases c : b = D
        · rw [c, hd] at h
          rw [c, upd_same]
          exact h
        · rw [upd_ne c]
          refine e _ _ (fun z => by rw [z, np] at h; cases h) ?_
          rw [hHf, upd_ne c]
          exact e1 _ _ h
      refine for_it walk_keysT (fun i σ H' => (∀ b o, b ≠ p → Hf b = some o → H' b = some o) ∧ ∃ (us : List (Addr × Pr)) (x3 x4 x5 x6 x7 : Option V), σ = [some (.ref W), some (.ref D), some (.ref p), x3, x4, x5, x6, x7] ∧ H' p = some (.lst (us.map fun t => V.ref t.1)) ∧ (∀ t ∈ us, H' t.1 = some (.tup [.int t.2.1, .int t.2.2])) ∧ us.map (·.2) = cellsW (ps.take i) g)
        ⟨fun _ _ _ h => h, [], _, _, _, _, _, rfl, gp, fun _ m => (by cases m), rfl⟩ (fun i σ H' _ p => p.1 _ _ npD.symm gf) ?_ ?_
      · rintro i x σ H2 H3 hi ⟨sm, us, x3, x4, x5, x6, x7, rfl, hp, hu, eus⟩ ⟨rfl, k, v, q0, e, rfl, hq⟩
        obtain ⟨z, hz, rfl, rfl⟩ := hm.at e
        have zk := List.mem_of_getElem? hz
        refine ⟨q0, _, rfl, tup_of hq, rfl, _, _, rfl, _, _, rfl, rfl, ?_⟩
        k_upd
        refine ⟨_, rfl, W, _, _, _, _, rfl, sm _ _ (fun e => by rw [e, gp] at hof; cases hof) hof, T.cl_World, T.na_World__living, rfl, _, rfl, _, rfl, (by k_clsL), fun tq nq => ?_⟩
        k_invariant "new" (nq, H4, e4, g4)
        have dg : DGet H4 D (.ref tq) (some (.int (g z : Nat))) := .inr ⟨kvs, keyP z, tq, (Same.rd e4 (rd.elim (fun y => .inl (sm _ _ (fun e => by rw [e, gp] at y; cases y) y)) fun ⟨o, y⟩ => .inr ⟨o, sm _ _ (fun e => by rw [e, gp] at y; cases y) y⟩)), rfl, g4, by rw [hm.get, if_pos zk]⟩
        refine ⟨D, _, rfl, dg, ?_⟩
        refine ⟨g z, hL.lt z, rfl, fun H5 pl npl e5 h5 => ?_⟩
        k_upd
        have hp5 := e5 _ _ (e4 _ _ hp)
        have ll : (cellsN (g z)).length ≤ 1024 := by
          rw [cellsN_len]
          exact bitsB_len 1024 (g z)
        refine ⟨_, rfl, .inl ⟨rfl, _, lst_of hp5⟩, _, rfl, _, rfl, ⟨_, lst_of h5.choose_spec.1⟩, fun D2 nD2 => lc_cells (fun y => (z.1 * 32 + y.1, z.2 * 32 + y.2)) h5 nD2 (by rw [sizeLine_eq]; omega) (fun t y H' Po Pn _ ht hq => ?_) fun H6 e6 h6 => ?_⟩
        · exact ⟨t, _, rfl, tup_of ht, rfl, _, _, rfl, _, _, rfl, rfl, rfl, tyesT ⟨_, rfl, _, _, rfl, rfl, (by k_offL), _, rfl, _, _, rfl, rfl, _, rfl, _, _, rfl, rfl, (by k_offL), _, rfl, _, _, rfl, rfl, (by k_clsL), fun t2 n2 => hq t2 n2⟩⟩
        obtain ⟨ws, w1, w2, w3⟩ := h6
        have hp6 := e6 _ _ hp5
        have w3 : ws.map (·.2) = cellsAt z (g z) := w3
        have tot : us.length + ws.length ≤ (cellsW ps g).length := by
          have h1 : us.length = (cellsW (ps.take i) g).length := by rw [← eus, List.length_map]
          have h2 : ws.length = (cellsAt z (g z)).length := by rw [← w3, List.length_map]
          rw [h1, h2, ← List.length_append, ← cellsW_next hz]
          exact cellsW_sub _ _
        refine ⟨_, _, _, _, rfl, rfl, hp6, w1, by rw [List.length_map, List.length_map, sizeLine_eq]; omega, ?_⟩
        have off : ∀ b o, H6 b = some o → (∀ xs, o ≠ .lst xs) → upd H6 p (.lst ((us.map fun t => V.ref t.1) ++ ws.map fun t => V.ref t.1)) b = some o := fun b o e ne => by
          rw [upd_ne fun z => ?_]
          · exact e
          · rw [z, hp6] at e
            exact ne _ (Option.some.inj e).symm
        refine ⟨fun b o n h => (by rw [upd_ne n]; exact e6 _ _ (e5 _ _ (e4 _ _ (sm _ _ n h)))), us ++ ws, _, _, _, _, _, rfl, by rw [upd_same, List.map_append], fun t m => ?_, ?_⟩
        · rcases List.mem_append.mp m with m | m
          · exact off _ _ (e6 _ _ (e5 _ _ (e4 _ _ (hu t m)))) (fun _ z => by cases z)
          · exact off _ _ (w2 t m) (fun _ z => by cases z)
        · rw [List.map_append, eus, w3, ← cellsW_next hz]
      · rintro σ H2 ⟨sm, us, x3, x4, x5, x6, x7, rfl, hp, hu, eus⟩
        rw [hm.len, List.take_length] at eus
        refine ⟨sm _ _ npD.symm gf, ?_⟩
        have off : ∀ b o, H2 b = some o → (∀ x y, o ≠ .frz x y) → upd H2 D (.dT kvs) b = some o := fun b o e ne => by
          rw [upd_ne fun z => ?_]
          · exact e
          · rw [z, sm _ _ npD.symm gf] at e
            exact ne _ _ (Option.some.inj e).symm
        exact ⟨_, rfl, q _ p np (un sm) ⟨us, off _ _ hp (fun _ _ z => by cases z), fun t m => off _ _ (hu t m) (fun _ _ z => by cases z), eus⟩⟩
    · skip
      refine ⟨_, (pss_cons (ps_set (i := 2) sc_World_cells_of_blocks.nd rfl (.inl rfl) (pe_lst pa_nil))
      (pss_cons (ps_for PassesOwn.never rfl (pi_list (pv 1)) (pg_tupK (K := K) (n := 2) rfl rfl (pgs_cons (pg_name (i := 3) sc_World_cells_of_blocks.nd rfl (.inr rfl)) (pgs_cons (pg_name (i := 4) sc_World_cells_of_blocks.nd rfl (.inr rfl)) pgs_nil)))
      (pss_cons (ps_set (i := 5) sc_World_cells_of_blocks.nd rfl (.inl rfl) (pe_call (ok_block_cells T) (hr.mono (by decide)) (by rfl) T.g_block_cells T.F_block_cells.kp T.b_block_cells .nil pass0 (pa_cons (pe_dget hu (pe_fld (pv 0) rfl) (pe_tup (pa_cons (pv 3) (pa_cons (pv 4) pa_nil))) (fun _ _ => rfl)) pa_nil)))
      (pss_one (ps_expr (pe_bm PySem.F.plainAttrs_list PySem.F.slot_list_extend PySem.F.type_list_extend mt_extend (pv 2) (pa_cons (pe_lc (own := [("down", 6), ("beside", 7)]) (tt := tYes) rfl sc_World_cells_of_blocks.nd (pi_list (pv 5)) (blkOk_by (own := [("down", 6), ("beside", 7)]) (N := N_World_cells_of_blocks) (sc := defScope s_World_cells_of_blocks) (by decide +kernel)) (fun _ _ _ _ _ => (pg_tupK (K := K) (n := 2) rfl rfl (pgs_cons (pg_name (i := 6) sc_World_cells_of_blocks.nd rfl (.inl rfl)) (pgs_cons (pg_name (i := 7) sc_World_cells_of_blocks.nd rfl (.inl rfl)) pgs_nil)))) (fun _ _ _ _ _ => pts_nil) (fun _ _ _ _ _ => (pe_tup (pa_cons (pe_op op_add (pe_op op_mul (pv 3) (pe_gcx (by rfl) T.c_SIDE)) (pv 6)) (pa_cons (pe_op op_add (pe_op op_mul (pv 4) (pe_gcx (by rfl) T.c_SIDE)) (pv 7)) pa_nil))))) pa_nil))))))
      (pss_one (ps_ret (pv 2))))), ?_⟩
      k_upd
      obtain ⟨ts, hl, ht, ets⟩ := id hC
      refine ⟨by k_clsL, fun p np => ?_⟩
      k_invariant "new" (np, H1, e1, g1)
      k_upd
      have lts : ts.length = ps.length := by rw [← ets, List.length_map]
      refine ⟨_, rfl, a, rfl, ⟨_, lst_of (e1 _ _ hl)⟩, ?_⟩
      have nap : a ≠ p := fun e => by rw [← e, hl] at np; cases np
      have hof : H1 W = some (.ins T.C_World dx (wf gen ru S D)) := e1 _ _ ho
      have rd : Rd H1 D (.dT kvs) := .inl (e1 _ _ hd)
      refine for_list (K := K) (a := a) (xs := ts.map fun t => V.ref t.1) (fun i σ H' => (∀ b o, b ≠ p → H1 b = some o → H' b = some o) ∧ ∃ (us : List (Addr × Pr)) (x3 x4 x5 x6 x7 : Option V), σ = [some (.ref W), some (.ref a), some (.ref p), x3, x4, x5, x6, x7] ∧ H' p = some (.lst (us.map fun t => V.ref t.1)) ∧ (∀ t ∈ us, H' t.1 = some (.tup [.int t.2.1, .int t.2.2])) ∧ us.map (·.2) = cellsW (ps.take i) g)
        ⟨fun _ _ _ h => h, [], _, _, _, _, _, rfl, g1, fun _ m => (by cases m), rfl⟩ (fun i σ H' _ p => lst_of (p.1 _ _ nap (e1 _ _ hl))) ?_ ?_
      · rintro i x σ H3 hi ⟨sm, us, x3, x4, x5, x6, x7, rfl, hp, hu, eus⟩
        obtain ⟨t, mt, rfl, hz'⟩ := item_cells (H := H3) hi rfl
        rw [ets] at hz'
        obtain ⟨z, ez⟩ : ∃ z, z = t.2 := ⟨_, rfl⟩
        rw [← ez] at hz'
        have hz := hz'
        have zk := sub z (List.mem_of_getElem? hz)
        have htt := e1 _ _ (ht t mt)
        have hq : H3 t.1 = some (.tup [.int z.1, .int z.2]) := by rw [ez]; exact sm _ _ (fun y => by rw [y, g1] at htt; cases htt) htt
        refine ⟨t.1, _, rfl, tup_of hq, rfl, _, _, rfl, _, _, rfl, rfl, ?_⟩
        k_upd
        refine ⟨_, rfl, W, _, _, _, _, rfl, sm _ _ (fun e => by rw [e, g1] at hof; cases hof) hof, T.cl_World, T.na_World__living, rfl, _, rfl, _, rfl, (by k_clsL), fun tq nq => ?_⟩
        k_invariant "new" (nq, H4, e4, g4)
        have dg : DGet H4 D (.ref tq) (some (.int (g z : Nat))) := .inr ⟨kvs, keyP z, tq, (Same.rd e4 (rd.elim (fun y => .inl (sm _ _ (fun e => by rw [e, g1] at y; cases y) y)) fun ⟨o, y⟩ => .inr ⟨o, sm _ _ (fun e => by rw [e, g1] at y; cases y) y⟩)), rfl, g4, by rw [hm.get, if_pos zk]⟩
        refine ⟨D, _, rfl, dg, ?_⟩
        refine ⟨g z, hL.lt z, rfl, fun H5 pl npl e5 h5 => ?_⟩
        k_upd
        have hp5 := e5 _ _ (e4 _ _ hp)
        have ll : (cellsN (g z)).length ≤ 1024 := by
          rw [cellsN_len]
          exact bitsB_len 1024 (g z)
        refine ⟨_, rfl, .inl ⟨rfl, _, lst_of hp5⟩, _, rfl, _, rfl, ⟨_, lst_of h5.choose_spec.1⟩, fun D2 nD2 => lc_cells (fun y => (z.1 * 32 + y.1, z.2 * 32 + y.2)) h5 nD2 (by rw [sizeLine_eq]; omega) (fun t y H' Po Pn _ ht hq => ?_) fun H6 e6 h6 => ?_⟩
        · exact ⟨t, _, rfl, tup_of ht, rfl, _, _, rfl, _, _, rfl, rfl, rfl, tyesT ⟨_, rfl, _, _, rfl, rfl, (by k_offL), _, rfl, _, _, rfl, rfl, _, rfl, _, _, rfl, rfl, (by k_offL), _, rfl, _, _, rfl, rfl, (by k_clsL), fun t2 n2 => hq t2 n2⟩⟩
        obtain ⟨ws, w1, w2, w3⟩ := h6
        have hp6 := e6 _ _ hp5
        have w3 : ws.map (·.2) = cellsAt z (g z) := w3
        have tot : us.length + ws.length ≤ (cellsW ps g).length := by
          have h1 : us.length = (cellsW (ps.take i) g).length := by rw [← eus, List.length_map]
          have h2 : ws.length = (cellsAt z (g z)).length := by rw [← w3, List.length_map]
          rw [h1, h2, ← List.length_append, ← cellsW_next hz]
          exact cellsW_sub _ _
        refine ⟨_, _, _, _, rfl, rfl, hp6, w1, by rw [List.length_map, List.length_map, sizeLine_eq]; omega, ?_⟩
        have off : ∀ b o, H6 b = some o → (∀ xs, o ≠ .lst xs) → upd H6 p (.lst ((us.map fun t => V.ref t.1) ++ ws.map fun t => V.ref t.1)) b = some o := fun b o e ne => by
          rw [upd_ne fun z => ?_]
          · exact e
          · rw [z, hp6] at e
            exact ne _ (Option.some.inj e).symm
        refine ⟨fun b o n h => (by rw [upd_ne n]; exact e6 _ _ (e5 _ _ (e4 _ _ (sm _ _ n h)))), us ++ ws, _, _, _, _, _, rfl, by rw [upd_same, List.map_append], fun t m => ?_, ?_⟩
        · rcases List.mem_append.mp m with m | m
          · exact off _ _ (e6 _ _ (e5 _ _ (e4 _ _ (hu t m)))) (fun _ z => by cases z)
          · exact off _ _ (w2 t m) (fun _ z => by cases z)
        · rw [List.map_append, eus, w3, ← cellsW_next hz]
      · rintro σ H2 ⟨sm, us, x3, x4, x5, x6, x7, rfl, hp, hu, eus⟩
        rw [List.length_map, lts, List.take_length] at eus
        exact ⟨_, rfl, q _ p np (fun b o h => sm _ _ (fun z => by rw [z, np] at h; cases h) (e1 _ _ h)) ⟨us, hp, hu, eus⟩⟩
end
end My
namespace My
open PySem PySem.Spec PyProof.Rows L2 Vx
open TL
local macro_rules | `(tactic| k_invariant "new" ($n, $H:ident, $e:ident, $h:ident)) => `(tactic| (generalize hE : upd _ _ _ = $H; obtain ⟨$e:ident, $h:ident⟩ := gen_e hE $n; clear hE))
local macro_rules | `(tactic| k_places) => `(tactic| first
  | assumption
  | exact lst_of (by assumption)
  | exact tup_of (by assumption)
  | (refine getS (by assumption) ?_; k_places)
  | (refine Same.seq (by assumption) ?_; k_places)
  | (refine tupS (by assumption) ?_; k_places)
  | (refine lst_of ?_; k_places)
  | (refine tup_of ?_; k_places))
local macro_rules | `(tactic| k_subL) => `(tactic| first
  | k_places
  | solve_by_elim (maxDepth := 10) [getS, lst_of, tup_of, Same.seq, tupS])
local macro_rules | `(tactic| k_offL) => `(tactic| first
  | (show (0 : Int) < _; first | omega | decide)
  | (refine ⟨?_, ?_⟩ <;> first | omega | decide)
  | exact .inr ⟨by decide, by decide⟩
  | exact .inl ⟨by decide, by decide⟩
  | exact .inl ⟨by omega, by omega⟩
  | omega)
local macro_rules | `(tactic| k_clsL) => `(tactic| exact Nat.le_of_ble_eq_true rfl)
local macro_rules | `(tactic| k_upd) => `(tactic| simp only [L2.start, List.map_cons, List.map_nil, List.length_cons, List.length_nil, List.replicate_succ, List.replicate_zero, List.cons_append, List.nil_append, List.set_cons_zero, List.set_cons_succ])
section
variable {P : Program} {w : World} {K : PySem.W.Frag} {mg : Str → Option Value} {base : Heap}
def sp_World_put (C : Addr) : Sp := fun vs H Q _ => ∃ (W ru S D : Addr) (gen : Int) (ks : List Pr) (g : Pr → Nat) (r c : Int) (al : Bool), vs = [.ref W, .int r, .int c, .bl al] ∧ WAt C H W gen ru S D ∧ LivIs H D ks g ∧
  W ≠ D ∧ ks.length < 100000 ∧ ∀ (H' : Hp) (ks' : List Pr) (g' : Pr → Nat), Sb D H H' → LivIs H' D ks' g' → ks'.length ≤ ks.length + 1 → (∀ x, inB g' x = if x = (r, c) then al else inB g x) → Q .non H'
theorem ok_World_put (T : Txt K mg) : FnOk P w K mg base CX0 4 T.f_World_put T.d_World_put ["self", "row", "column", "alive"] (sp_World_put T.C_World) := by
  refine T.F_World_put.ok sc_World_put (fun vs H Q E h => ?_) (fun cdv A outer s H vs Q E hr h => ?_)
  · obtain ⟨_, _, _, _, _, _, _, _, _, _, rfl, _⟩ := h
    rfl
  · obtain ⟨W, ru, S, D, gen, ks, g, r, c, al, rfl, hW, hL, nWD, fk, q⟩ := h
    refine ⟨_, (pss_one (ps_expr (pe_meth (pv 0) T.cl_World T.m_World_paste (ok_World_paste T) (hr.mono (by decide)) T.b_World_paste .nil pass0 (pa_cons (pe_lst (pa_cons (pe_tup (pa_cons (pv 1) (pa_cons (pv 2) pa_nil))) pa_nil)) (pa_cons pe_int (pa_cons pe_int (pa_cons (pe_ifExp (pt_val (pv 3)) pe_str pe_str) pa_nil))))))), ?_⟩
    obtain ⟨dx, ho⟩ := id hW
    refine ⟨_, rfl, W, _, _, rfl, ho, rfl, _, rfl, _, rfl, (by k_clsL), fun t nt => ?_⟩
    k_invariant "new" (nt, H1, e1, g1)
    refine ⟨(by k_clsL), fun l nl => ?_⟩
    k_invariant "new" (nl, H2, e2, g2)
    have hC : Cells H2 l [(r, c)] := ⟨[(t, (r, c))], g2, fun u m => by rw [List.mem_singleton.mp m]; exact e2 _ _ g1, rfl⟩
    have s2 := e1.trans e2
    have fin : ∀ m, m < 3 → (al = true ∧ m = 0 ∨ al = false ∧ m = 1) → sp_World_paste T.C_World [.ref W, .ref l, .int 0, .int 0, .str (modeS m)] H2 (fun x H' => Q .non H') E := fun m m3 hm => by
      refine ⟨W, ru, S, D, l, gen, ks, g, [(r, c)], 0, 0, m, m3, rfl, hW.up s2, hL.up s2, nWD, fk, hC, Nat.le_of_ble_eq_true rfl, fun H3 ks' g' sb hL3 lk hg => ?_⟩
      refine q H3 ks' g' ((Sb.of s2).trans sb) hL3 lk fun x => ?_
      rw [hg]
      have e : (List.map (fun y : Pr => (y.1 + 0, y.2 + 0)) [(r, c)]) = [(r, c)] := by
        show [(r + 0, c + 0)] = _
        rw [Int.add_zero, Int.add_zero]
      rw [e]
      by_cases cx : x = (r, c)
      · rw [if_pos cx, decide_eq_true (List.mem_singleton.mpr cx)]
        rcases hm with ⟨rfl, rfl⟩ | ⟨rfl, rfl⟩
        · show (inB g x || true) = true
          rw [Bool.or_true]
        · show (inB g x && false) = false
          rw [Bool.and_false]
      · rw [if_neg cx, decide_eq_false (fun z => cx (List.mem_singleton.mp z)), chgB_no]
    cases al with
    | true =>
      refine ⟨_, rfl, _, rfl, iteT ?_⟩
      exact fin 0 (by decide) (.inl ⟨rfl, rfl⟩)
    | false =>
      refine ⟨_, rfl, _, rfl, iteF ?_⟩
      exact fin 1 (by decide) (.inr ⟨rfl, rfl⟩)
theorem sum_nat : ∀ l : List Nat, (l.map fun n => ((n : Nat) : Int)).sum = ((l.sum : Nat) : Int)
  | [] => rfl
  | a :: l => by
    rw [List.map_cons, List.sum_cons, List.sum_cons, sum_nat l]
    omega
def sp_World_count (C : Addr) : Sp := fun vs H Q _ => ∃ (W ru S D : Addr) (gen : Int) (ks : List Pr) (g : Pr → Nat), vs = [.ref W] ∧ WAt C H W gen ru S D ∧ LivIs H D ks g ∧ ks.length < 1000000 ∧
  ∀ H', Same H H' → Q (.int ((cellsW ks g).length : Nat)) H'
theorem ok_World_count (T : Txt K mg) : FnOk P w K mg base CX0 2 T.f_World_count T.d_World_count ["self"] (sp_World_count T.C_World) := by
  refine T.F_World_count.ok sc_World_count (fun vs H Q E h => ?_) (fun cdv A outer s H vs Q E hr h => ?_)
  · obtain ⟨_, _, _, _, _, _, _, rfl, _⟩ := h
    rfl
  · obtain ⟨W, ru, S, D, gen, ks, g, rfl, ⟨dx, ho⟩, hL, few, q⟩ := h
    obtain ⟨kvs, hd, hm⟩ := id hL.dct
    have nWD : W ≠ D := fun e => by rw [e, hd] at ho; cases ho
    refine ⟨_, (pss_one (ps_ret (pe_callB (cr_sum rfl) (by rfl) T.z_sum (by decide +kernel) (pa_cons (pe_lock (pe_lc (own := [("block", 1)]) (g := gName 1) (tt := tYes) rfl sc_World_count.nd (pi_valuesT (pe_fld (pv 0) rfl)) (blkOk_by (own := [("block", 1)]) (N := N_World_count) (sc := defScope s_World_count) (by decide +kernel)) (fun _ _ _ _ _ => pg_name (i := 1) sc_World_count.nd rfl (Or.inl rfl)) (fun _ _ _ _ _ => pts_nil) (fun _ _ _ _ _ => (pe_call (ok_block_count T) (hr.mono (by decide)) (by rfl) T.g_block_count T.F_block_count.kp T.b_block_count .nil pass0 (pa_cons (pv 1) pa_nil))))) pa_nil)))), ?_⟩
    k_upd
    refine ⟨D, _, hd, trivial, fun od => ⟨_, rfl, W, _, _, _, _, rfl, (by rw [upd_ne nWD]; exact ho), T.cl_World, T.na_World__living, rfl, D, od, kvs, rfl, upd_same, fun L nL => lc_it walk_valuesT
      (fun i H' => Same (upd H D (.frz od (.dT kvs))) H' ∧ H' L = some (.lst (((ks.take i).map fun p => ((popN (g p) : Nat) : Int)).map V.int))) ⟨newS nL, upd_same⟩ (fun i H' _ p => p.1 _ _ upd_same) ?_ ?_⟩⟩
    · rintro i x H' H2 hi ⟨sm, hp⟩ ⟨rfl, k, e⟩
      obtain ⟨z, hz, rfl, rfl⟩ := hm.at e
      refine ⟨rfl, tyesT ⟨_, rfl, g z, hL.lt z, rfl, _, hp, ?_, mutS sm nL, ?_⟩⟩
      · rw [List.length_map, List.length_map, List.length_take, sizeLine_eq]
        omega
      · rw [upd_same, take_next hz, List.map_append, List.map_append]
        rfl
    · rintro H' ⟨sm, hp⟩
      rw [hm.len, List.take_length] at hp
      have gD := sm _ _ upd_same
      refine ⟨gD, ?_⟩
      have nLD : L ≠ D := fun e => by rw [e, upd_same] at nL; cases nL
      refine ⟨L, _, rfl, lst_of (by rw [upd_ne nLD]; exact hp), ?_⟩
      have es : (ks.map fun p => ((popN (g p) : Nat) : Int)).sum = (((cellsW ks g).length : Nat) : Int) := by
        rw [cellsW_len, ← sum_nat, List.map_map]
        rfl
      rw [es]
      refine q _ fun b o h => ?_
      by_cases c : b = D
      · rw [c, hd] at h
        rw [c, upd_same]
        exact h
      · rw [upd_ne c]
        exact sm _ _ (by rw [upd_ne c]; exact h)
def sp_World_cells (C : Addr) : Sp := fun vs H Q _ => ∃ (W ru S D : Addr) (gen : Int) (ks : List Pr) (g : Pr → Nat), vs = [.ref W] ∧ WAt C H W gen ru S D ∧ LivIs H D ks g ∧ ks.length < 1000000 ∧ (cellsW ks g).length < 1000000 ∧
  ∀ (H' : Hp) (p : Addr) (qs : List Pr), H p = none → Same H H' → Cells H' p qs → qs.Pairwise ltP → (∀ x, x ∈ qs ↔ inB g x = true) → qs.length = (cellsW ks g).length → Q (.ref p) H'
theorem LivIs.mem {H : Hp} {D : Addr} {ks : List Pr} {g : Pr → Nat} (h : LivIs H D ks g) (x : Pr) : x ∈ cellsW ks g ↔ inB g x = true := by
  rw [cellsW_mem]
  refine ⟨fun z => z.2, fun t => ⟨(h.pos _).mpr fun z => ?_, t⟩⟩
  unfold inB at t
  rw [z, Nat.zero_testBit] at t
  cases t
theorem ok_World_cells (T : Txt K mg) : FnOk P w K mg base CX0 3 T.f_World_cells T.d_World_cells ["self"] (sp_World_cells T.C_World) := by
  refine T.F_World_cells.ok sc_World_cells (fun vs H Q E h => ?_) (fun cdv A outer s H vs Q E hr h => ?_)
  · obtain ⟨_, _, _, _, _, _, _, rfl, _⟩ := h
    rfl
  · obtain ⟨W, ru, S, D, gen, ks, g, rfl, hW, hL, few, fewc, q⟩ := h
    obtain ⟨dx, ho⟩ := id hW
    refine ⟨_, (pss_one (ps_ret (pe_callB cr_sortedC (by rfl) T.z_sorted (by decide +kernel) (pa_cons (pe_meth (pv 0) T.cl_World T.m_World_cells_of_blocks (ok_World_cells_of_blocks T) (hr.mono (by decide)) T.b_World_cells_of_blocks .nil pass0 (pa_cons (pe_fld (pv 0) rfl) pa_nil)) pa_nil)))), ?_⟩
    k_upd
    refine ⟨_, rfl, W, _, _, rfl, ho, rfl, _, rfl, W, _, _, _, _, rfl, ho, T.cl_World, T.na_World__living, rfl, W, ru, S, D, D, gen, ks, g, ks, rfl, hW, hL, .inl ⟨rfl, rfl⟩, fun _ m => m, few, fewc, fun H1 p1 n1 e1 h1 => ?_⟩
    refine ⟨p1, _, rfl, h1, cellsW_nd hL.nd, fun p2 H2 qs e2 n2 h2 c2 l2 => ?_⟩
    exact q H2 p2 qs (backS e1 n2) (e1.trans e2) h2 c2.1 (fun x => (c2.2 x).trans (hL.mem x)) l2
end
end My
namespace My
open PySem PySem.Spec PyProof.Rows L2 Vx
open TL
local macro_rules | `(tactic| k_invariant "new" ($n, $H:ident, $e:ident, $h:ident)) => `(tactic| (generalize hE : upd _ _ _ = $H; obtain ⟨$e:ident, $h:ident⟩ := gen_e hE $n; clear hE))
local macro_rules | `(tactic| k_places) => `(tactic| first
  | assumption
  | exact lst_of (by assumption)
  | exact tup_of (by assumption)
  | (refine getS (by assumption) ?_; k_places)
  | (refine Same.seq (by assumption) ?_; k_places)
  | (refine tupS (by assumption) ?_; k_places)
  | (refine lst_of ?_; k_places)
  | (refine tup_of ?_; k_places))
local macro_rules | `(tactic| k_subL) => `(tactic| first
  | k_places
  | solve_by_elim (maxDepth := 10) [getS, lst_of, tup_of, Same.seq, tupS])
local macro_rules | `(tactic| k_offL) => `(tactic| first
  | (show (0 : Int) < _; first | omega | decide)
  | (refine ⟨?_, ?_⟩ <;> first | omega | decide)
  | exact .inr ⟨by decide, by decide⟩
  | exact .inl ⟨by decide, by decide⟩
  | exact .inl ⟨by omega, by omega⟩
  | omega)
local macro_rules | `(tactic| k_clsL) => `(tactic| exact Nat.le_of_ble_eq_true rfl)
local macro_rules | `(tactic| k_upd) => `(tactic| simp only [L2.start, List.map_cons, List.map_nil, List.length_cons, List.length_nil, List.replicate_succ, List.replicate_zero, List.cons_append, List.nil_append, List.set_cons_zero, List.set_cons_succ])
section
variable {P : Program} {w : World} {K : PySem.W.Frag} {mg : Str → Option Value} {base : Heap}
def Greatest (a : Int) (l : List Int) : Prop := a ∈ l ∧ ∀ y, y ∈ l → y ≤ a
theorem Greatest.uniq {a b : Int} {l : List Int} (h : Greatest a l) (h2 : Greatest b l) : a = b := by
  have := h.2 _ h2.1
  have := h2.2 _ h.1
  omega
def Least (a : Int) (l : List Int) : Prop := a ∈ l ∧ ∀ y, y ∈ l → a ≤ y
theorem Least.uniq {a b : Int} {l : List Int} (h : Least a l) (h2 : Least b l) : a = b := by
  have := h.2 _ h2.1
  have := h2.2 _ h.1
  omega
def rowsP (ps : List Pr) : List Int := ps.map (·.1)
def colsP (ps : List Pr) : List Int := ps.map (·.2)
theorem atI_neg1 {xs : List V} {v : V} (h : xs.getLast? = some v) : atI xs (-1) = some v := by
  rcases List.eq_nil_or_concat xs with rfl | ⟨us, u, e⟩
  · cases h
  · rw [List.concat_eq_append] at e
    subst e
    rw [List.getLast?_concat] at h
    have h := Option.some.inj h
    subst h
    unfold atI ixN
    rw [if_neg (by decide), List.length_append, List.length_singleton, if_pos (by omega)]
    show (us ++ [u])[(-1 + ((us.length + 1 : Nat) : Int)).toNat]? = some u
    rw [show (-1 + ((us.length + 1 : Nat) : Int)).toNat = us.length by omega]
    simp
def sp_World_bounds (C : Addr) : Sp := fun vs H Q _ => ∃ (W ru S D : Addr) (gen : Int) (ks : List Pr) (g : Pr → Nat), vs = [.ref W] ∧ WAt C H W gen ru S D ∧ LivIs H D ks g ∧ ks.length < 1000000 ∧ (cellsW ks g).length < 1000000 ∧
  (∀ H', Same H H' → (∀ x, inB g x = false) → Q .non H') ∧
  ∀ (H' : Hp) (p : Addr) (qs : List Pr) (r0 c0 r1 c1 : Int), Same H H' → qs ≠ [] → qs.Pairwise ltP → (∀ x, x ∈ qs ↔ inB g x = true) → H' p = some (.tup [.int r0, .int c0, .int r1, .int c1]) → Least r0 (rowsP qs) → Least c0 (colsP qs) → Greatest r1 (rowsP qs) → Greatest c1 (colsP qs) → Q (.ref p) H'
theorem ok_World_bounds (T : Txt K mg) : FnOk P w K mg base CX0 4 T.f_World_bounds T.d_World_bounds ["self"] (sp_World_bounds T.C_World) := by
  refine T.F_World_bounds.ok sc_World_bounds (fun vs H Q E h => ?_) (fun cdv A outer s H vs Q E hr h => ?_)
  · obtain ⟨_, _, _, _, _, _, _, rfl, _⟩ := h
    rfl
  · obtain ⟨W, ru, S, D, gen, ks, g, rfl, hW, hL, few, fewc, qn, q⟩ := h
    obtain ⟨dx, ho⟩ := id hW
    refine ⟨_, (pss_cons (ps_set (i := 1) sc_World_bounds.nd rfl (.inl rfl) (pe_meth0 (pv 0) T.cl_World T.m_World_cells (ok_World_cells T) (hr.mono (by decide)) T.b_World_cells .nil pass0))
      (pss_cons (ps_if (pt_not (pt_truth (pv 1) (by intro _; rfl)))
      (pss_one (ps_ret pe_non))
      pss_nil)
      (pss_cons (ps_setLc (i := 2) (own := [("_", 3), ("column", 4)]) (tt := tYes) rfl sc_World_bounds.nd rfl rfl (sw_true rfl rfl rfl (by decide +kernel)) (pi_list (pv 1)) (blkOk_by (own := [("_", 3), ("column", 4)]) (N := N_World_bounds) (sc := defScope s_World_bounds) (by decide +kernel)) (fun _ _ _ _ _ => (pg_tupK (K := K) (n := 2) rfl rfl (pgs_cons (pg_name (i := 3) sc_World_bounds.nd rfl (.inl rfl)) (pgs_cons (pg_name (i := 4) sc_World_bounds.nd rfl (.inl rfl)) pgs_nil)))) (fun _ _ _ _ _ => pts_nil) (fun _ _ _ _ _ => (pv 4)))
      (pss_one (ps_ret (pe_tup (pa_cons (pe_ix (ix_tupK (K := K) rfl) (pe_ix ix_list (pv 1) pe_int (fun _ _ => rfl)) pe_int (fun _ _ => rfl)) (pa_cons (pe_callB (cr_min rfl) (by rfl) T.z_min (by decide +kernel) (pa_cons (pv 2) pa_nil)) (pa_cons (pe_ix (ix_tupK (K := K) rfl) (pe_ix ix_list (pv 1) (pe_un un_neg pe_int) (fun _ _ => rfl)) pe_int (fun _ _ => rfl)) (pa_cons (pe_callB (cr_max rfl) (by rfl) T.z_max (by decide +kernel) (pa_cons (pv 2) pa_nil)) pa_nil)))))))))), ?_⟩
    refine ⟨_, rfl, W, _, _, rfl, ho, rfl, W, ru, S, D, gen, ks, g, rfl, hW, hL, few, fewc, fun H1 p1 qs n1 e1 h1 pw mem len => ?_⟩
    obtain ⟨ts, hl, ht, ets⟩ := id h1
    have tru : TruV K (.ref p1) H1 (!qs.isEmpty) := .inl ⟨_, lst_of hl, by rw [← ets]; cases ts <;> rfl⟩
    refine ⟨_, rfl, _, tru, ?_⟩
    cases eq : qs with
    | nil =>
      refine qn H1 e1 fun x => ?_
      cases hx : inB g x with
      | false => rfl
      | true =>
        have := (mem x).mpr hx
        rw [eq] at this
        cases this
    | cons x0 rest =>
      have ne : qs ≠ [] := by rw [eq]; simp
      have isE : qs.isEmpty = false := by rw [eq]; rfl
      refine ⟨_, rfl, _, rfl, ⟨_, lst_of hl⟩, fun D1 nD1 => lc_nums (·.2) h1 nD1 (by rw [len, sizeLine_eq]; omega) (fun t y H' Po Pn _ ht hq => ⟨t, _, rfl, tup_of ht, rfl, _, _, rfl, _, _, rfl, rfl, rfl, tyesT ⟨_, rfl, hq⟩⟩) fun H2 e2 h2 => ?_⟩
      have hl2 := e2 _ _ hl
      have lq : 0 < (qs.map fun y => y.2).length := by rw [eq]; exact Nat.zero_lt_succ _
      obtain ⟨t0, us, e0⟩ : ∃ t0 us, ts = t0 :: us := by
        cases ts with
        | nil => rw [← ets] at eq; cases eq
        | cons t0 us => exact ⟨t0, us, rfl⟩
      obtain ⟨vs, tz, ez⟩ : ∃ vs tz, ts = vs ++ [tz] := by
        rcases List.eq_nil_or_concat ts with e | ⟨vs, tz, e⟩
        · rw [e] at e0; cases e0
        · exact ⟨vs, tz, by rw [e, List.concat_eq_append]⟩
      have m0 : t0 ∈ ts := by rw [e0]; exact List.mem_cons_self
      have mz : tz ∈ ts := by rw [ez]; exact List.mem_append.mpr (.inr (List.mem_singleton.mpr rfl))
      have a0 : atI (ts.map fun t => V.ref t.1) 0 = some (.ref t0.1) := atI_nat (j := 0) (by rw [e0]; rfl)
      have az : atI (ts.map fun t => V.ref t.1) (-1) = some (.ref tz.1) := atI_neg1 (by rw [ez, List.map_append]; exact List.getLast?_concat)
      have g0 := e2 _ _ (ht t0 m0)
      have gz := e2 _ _ (ht tz mz)
      refine ⟨_, rfl, _, _, _, _, rfl, rfl, lst_of hl2, a0, _, _, _, _, rfl, rfl, tup_of g0, rfl, _, rfl, _, _, rfl, lst_of h2, lq, fun c0 mc0 lc0 => ?_⟩
      refine ⟨_, rfl, _, rfl, _, _, _, _, rfl, rfl, lst_of hl2, az, _, _, _, _, rfl, rfl, tup_of gz, rfl, _, rfl, _, _, rfl, lst_of h2, lq, fun c1 mc1 lc1 => ?_⟩
      refine ⟨(by k_clsL), fun p5 n5 => ?_⟩
      k_invariant "new" (n5, H5, e5, g5)
      refine q H5 p5 qs _ _ _ _ (e1.trans (e2.trans e5)) ne pw mem g5 ⟨?_, fun y my => ?_⟩ ⟨mc0, fun y my => lc0 y my⟩ ⟨?_, fun y my => ?_⟩ ⟨mc1, fun y my => lc1 y my⟩
      · rw [← ets]
        exact List.mem_map.mpr ⟨t0.2, List.mem_map.mpr ⟨t0, m0, rfl⟩, rfl⟩
      · obtain ⟨z, mz', rfl⟩ := List.mem_map.mp my
        rw [← ets, e0] at pw mz'
        rcases List.mem_cons.mp mz' with e | m
        · rw [e]
          exact Int.le_refl _
        · have h : t0.2.1 < z.1 ∨ t0.2.1 = z.1 ∧ t0.2.2 < z.2 := ltP_iff.mp ((List.pairwise_cons.mp pw).1 z m)
          show t0.2.1 ≤ z.1
          omega
      · rw [← ets]
        exact List.mem_map.mpr ⟨tz.2, List.mem_map.mpr ⟨tz, mz, rfl⟩, rfl⟩
      · obtain ⟨z, mz', rfl⟩ := List.mem_map.mp my
        rw [← ets, ez, List.map_append] at pw mz'
        rcases List.mem_append.mp mz' with m | m
        · have := ltP_iff.mp ((List.pairwise_append.mp pw).2.2 z m tz.2 (List.mem_singleton.mpr rfl))
          omega
        · rw [List.mem_singleton.mp m]
          exact Int.le_refl _
end
end My
namespace My
open PySem PySem.Spec PyProof.Rows L2 Vx
open TL
local macro_rules | `(tactic| k_invariant "new" ($n, $H:ident, $e:ident, $h:ident)) => `(tactic| (generalize hE : upd _ _ _ = $H; obtain ⟨$e:ident, $h:ident⟩ := gen_e hE $n; clear hE))
local macro_rules | `(tactic| k_places) => `(tactic| first
  | assumption
  | exact lst_of (by assumption)
  | exact tup_of (by assumption)
  | (refine getS (by assumption) ?_; k_places)
  | (refine Same.seq (by assumption) ?_; k_places)
  | (refine tupS (by assumption) ?_; k_places)
  | (refine lst_of ?_; k_places)
  | (refine tup_of ?_; k_places))
local macro_rules | `(tactic| k_subL) => `(tactic| first
  | k_places
  | solve_by_elim (maxDepth := 10) [getS, lst_of, tup_of, Same.seq, tupS])
local macro_rules | `(tactic| k_offL) => `(tactic| first
  | (show (0 : Int) < _; first | omega | decide)
  | (refine ⟨?_, ?_⟩ <;> first | omega | decide)
  | exact .inr ⟨by decide, by decide⟩
  | exact .inl ⟨by decide, by decide⟩
  | exact .inl ⟨by omega, by omega⟩
  | omega)
local macro_rules | `(tactic| k_clsL) => `(tactic| exact Nat.le_of_ble_eq_true rfl)
local macro_rules | `(tactic| k_upd) => `(tactic| simp only [L2.start, List.map_cons, List.map_nil, List.length_cons, List.length_nil, List.replicate_succ, List.replicate_zero, List.cons_append, List.nil_append, List.set_cons_zero, List.set_cons_succ])
section
variable {P : Program} {w : World} {K : PySem.W.Frag} {mg : Str → Option Value} {base : Heap}
/-! ### a window -/
def sgC (b : Bool) : Str := if b then Str.ofString "O" else Str.ofString "."
def rowM (M : Pr → Bool) (r c : Int) (w : Nat) : List V := (List.range w).map fun (b : Nat) => V.str (sgC (M (r, c + (b : Int))))
def winS (A : Pr → Bool) (r c : Int) (w : Nat) : Str := Txt.join (Str.ofString "") ((List.range w).map fun (b : Nat) => sgC (A (r, c + (b : Int))))
theorem sgC_len (b : Bool) : (sgC b).length = 1 := by
  cases b <;> decide +kernel
theorem cells_push {H H2 : Hp} {D t : Addr} {ps : List Pr} {x : Pr} (h : Cells H D ps) (e : Same H H2) (g : H2 t = some (.tup [.int x.1, .int x.2])) :
    ∃ acc, H2 D = some (.lst acc) ∧ acc.length = ps.length ∧ Cells (upd H2 D (.lst (acc ++ [.ref t]))) D (ps ++ [x]) := by
  obtain ⟨ts, h1, h2, h3⟩ := h
  have hD := e _ _ h1
  have off : ∀ b o, H2 b = some o → (∀ xs, o ≠ .lst xs) → upd H2 D (.lst ((ts.map fun t => V.ref t.1) ++ [.ref t])) b = some o := fun b o k ne => by
    rw [upd_ne fun z => ?_]
    · exact k
    · rw [z, hD] at k
      exact ne _ (Option.some.inj k).symm
  refine ⟨_, hD, by rw [← h3, List.length_map, List.length_map], ts ++ [(t, x)], by rw [upd_same, List.map_append]; rfl, fun u m => ?_, by rw [List.map_append, h3]; rfl⟩
  rcases List.mem_append.mp m with m | m
  · exact off _ _ (e _ _ (h2 u m)) (fun _ z => by cases z)
  · rw [List.mem_singleton.mp m]
    exact off _ _ g (fun _ z => by cases z)
def plRow (lo lo2 : Int) (n2 i : Nat) : List Pr := (List.range n2).map fun (b : Nat) => (lo + (i : Int), lo2 + (b : Int))
def plW (lo lo2 : Int) (n2 : Nat) : Nat → List Pr
  | 0 => []
  | i + 1 => plW lo lo2 n2 i ++ plRow lo lo2 n2 i
theorem plW_len (lo lo2 : Int) (n2 : Nat) : ∀ i, (plW lo lo2 n2 i).length = i * n2
  | 0 => by rw [Nat.zero_mul]; rfl
  | i + 1 => by
    show (plW lo lo2 n2 i ++ plRow lo lo2 n2 i).length = _
    unfold plRow
    rw [List.length_append, plW_len, List.length_map, List.length_range, Nat.succ_mul]
theorem plW_mem {lo lo2 : Int} {n2 : Nat} {p : Pr} : ∀ {i : Nat}, lo ≤ p.1 → p.1 < lo + (i : Int) → lo2 ≤ p.2 → p.2 < lo2 + (n2 : Int) → p ∈ plW lo lo2 n2 i
  | 0, h1, h2, _, _ => by omega
  | i + 1, h1, h2, h3, h4 => by
    show p ∈ plW lo lo2 n2 i ++ plRow lo lo2 n2 i
    by_cases c : p.1 < lo + (i : Int)
    · exact List.mem_append.mpr (.inl (plW_mem h1 c h3 h4))
    · refine List.mem_append.mpr (.inr (List.mem_map.mpr ⟨(p.2 - lo2).toNat, List.mem_range.mpr (by omega), ?_⟩))
      refine Prod.ext ?_ ?_
      · show lo + (i : Int) = p.1
        omega
      · show lo2 + (((p.2 - lo2).toNat : Nat) : Int) = p.2
        omega
theorem cellsW_le {g : Pr → Nat} : ∀ ps : List Pr, (cellsW ps g).length ≤ 1024 * ps.length
  | [] => Nat.le_refl _
  | p :: ps => by
    show (cellsAt p (g p) ++ cellsW ps g).length ≤ _
    have h1 : (cellsAt p (g p)).length ≤ 1024 := by
      unfold cellsAt
      rw [List.length_map, cellsN_len]
      exact bitsB_len 1024 (g p)
    have h2 := cellsW_le (g := g) ps
    rw [List.length_append, List.length_cons]
    omega
theorem rep_flat (x : V) : ∀ n : Nat, (List.replicate n [x]).flatten = List.replicate n x
  | 0 => rfl
  | n + 1 => by
    rw [List.replicate_succ, List.replicate_succ, List.flatten_cons, rep_flat x n]
    rfl
theorem rowM_none (r c : Int) (w : Nat) : rowM (fun _ => false) r c w = List.replicate w (V.str (Str.ofString ".")) := by
  unfold rowM
  show (List.range w).map (fun _ => V.str (Str.ofString ".")) = _
  rw [List.map_const', List.length_range]
theorem rowM_set {M : Pr → Bool} {r c : Int} {w b : Nat} (hb : b < w) : (rowM M r c w).set b (V.str (Str.ofString "O")) = rowM (fun y => decide (y = (r, c + (b : Int))) || M y) r c w := by
  unfold rowM
  refine List.ext_getElem (by simp) fun j h1 h2 => ?_
  rw [List.getElem_set]
  simp only [List.getElem_map, List.getElem_range]
  by_cases e : b = j
  · subst e
    rw [if_pos rfl, decide_eq_true rfl]
    rfl
  · rw [if_neg e, decide_eq_false]
    · rfl
    · intro z
      have : c + (j : Int) = c + (b : Int) := congrArg Prod.snd z
      omega
def sp_World_window (C : Addr) : Sp := fun vs H Q _ => ∃ (W ru S D : Addr) (gen : Int) (ks : List Pr) (g : Pr → Nat) (r c : Int) (h w : Nat), vs = [.ref W, .int r, .int c, .int (h : Int), .int (w : Int)] ∧ WAt C H W gen ru S D ∧ LivIs H D ks g ∧
  1 ≤ h ∧ h ≤ 200 ∧ 1 ≤ w ∧ w ≤ 200 ∧ r.natAbs < 2 ^ 55 ∧ c.natAbs < 2 ^ 55 ∧ ∀ (H' : Hp) (p : Addr), H p = none → Same H H' → H' p = some (.lst ((List.range h).map fun (a : Nat) => V.str (winS (inB g) (r + (a : Int)) c w))) → Q (.ref p) H'
theorem ok_World_window (T : Txt K mg) : FnOk P w K mg base CX0 3 T.f_World_window T.d_World_window ["self", "row", "column", "height", "width"] (sp_World_window T.C_World) := by
  refine T.F_World_window.ok sc_World_window (fun vs H Q E h => ?_) (fun cdv A outer s H vs Q E hr h => ?_)
  · obtain ⟨_, _, _, _, _, _, _, _, _, _, _, rfl, _⟩ := h
    rfl
  · obtain ⟨W, ru, S, D, gen, ks, g, r, c, h, wd, rfl, hW, hL, h1, h2, w1, w2, rb, cb, q⟩ := h
    obtain ⟨kvs, hd, hm⟩ := id hL.dct
    have hu : (A.deeper (envOfC (Str.ofString "World.window") (defScope s_World_window) s.heap.objs.size T.f_World_window cdv)).units + 1 < cLine := by
      have := hr.units
      omega
    refine ⟨_, (pss_cons (ps_setLc2 (i := 5) (own := [("down", 7), ("beside", 8)]) (vs1 := [8]) (g := gName 7) (g1 := gName 8) (tt := tYes) (tt1 := tYes) rfl sc_World_window.nd rfl rfl (sw_true rfl rfl rfl (by decide +kernel)) (pi_range2 (by rfl) T.z_range (pa_cons (pe_op op_fdiv (pv 1) (pe_gcx (by rfl) T.c_SIDE)) (pa_cons (pe_op op_add (pe_op op_fdiv (pe_op op_sub (pe_op op_add (pv 1) (pv 3)) pe_int) (pe_gcx (by rfl) T.c_SIDE)) pe_int) pa_nil))) (blkOk_by (own := [("down", 7), ("beside", 8)]) (N := N_World_window) (sc := defScope s_World_window) (by decide +kernel)) (by decide) (fun _ _ _ _ _ => (pg_name (i := 7) sc_World_window.nd rfl (Or.inl rfl))) (fun _ _ _ _ _ => pts_nil) (fun _ _ _ _ _ => (pi_range2 (by rfl) T.z_range (pa_cons (pe_op op_fdiv (pv 2) (pe_gcx (by rfl) T.c_SIDE)) (pa_cons (pe_op op_add (pe_op op_fdiv (pe_op op_sub (pe_op op_add (pv 2) (pv 4)) pe_int) (pe_gcx (by rfl) T.c_SIDE)) pe_int) pa_nil)))) (fun _ _ _ _ _ => (pg_name (i := 8) sc_World_window.nd rfl (Or.inl rfl))) (fun _ _ _ _ _ => pts_nil) (fun _ _ _ _ _ => (pe_tup (pa_cons (pv 7) (pa_cons (pv 8) pa_nil)))))
      (pss_cons (ps_setLc (i := 6) (own := [("_", 9)]) (g := gName 9) (tt := tYes) rfl sc_World_window.nd rfl rfl (sw_true rfl rfl rfl (by decide +kernel)) (pi_range1 (by rfl) T.z_range (pa_cons (pv 3) pa_nil)) (blkOk_by (own := [("_", 9)]) (N := N_World_window) (sc := defScope s_World_window) (by decide +kernel)) (fun _ _ _ _ _ => pg_name (i := 9) sc_World_window.nd rfl (Or.inl rfl)) (fun _ _ _ _ _ => pts_nil) (fun _ _ _ _ _ => (pe_op op_rep (pe_lst (pa_cons (pe_gcx (by rfl) T.c_DEAD) pa_nil)) (pv 4))))
      (pss_cons (ps_for PassesOwn.never rfl (pi_list (pe_meth (pv 0) T.cl_World T.m_World_cells_of_blocks (ok_World_cells_of_blocks T) (hr.mono (by decide)) T.b_World_cells_of_blocks .nil pass0 (pa_cons (pe_lc (own := [("place", 10)]) (g := gName 10) rfl sc_World_window.nd (pi_list (pv 5)) (blkOk_by (own := [("place", 10)]) (N := N_World_window) (sc := defScope s_World_window) (by decide +kernel)) (fun _ _ _ _ _ => pg_name (i := 10) sc_World_window.nd rfl (Or.inl rfl)) (fun _ _ _ _ _ => pts_one (pt_cmp (pc_din hu (pv 10) (pe_fldK (K := K) rfl (pv 0) rfl)))) (fun _ _ _ _ _ => (pv 10))) pa_nil))) (pg_tupK (K := K) (n := 2) rfl rfl (pgs_cons (pg_name (i := 7) sc_World_window.nd rfl (.inl rfl)) (pgs_cons (pg_name (i := 8) sc_World_window.nd rfl (.inl rfl)) pgs_nil)))
      (pss_one (ps_if (PW.pt (pw_and (pt_chain op_le op_lt (pv 1) (pv 7) (pe_op op_add (pv 1) (pv 3))) (pw_and1 (pt_chain op_le op_lt (pv 2) (pv 8) (pe_op op_add (pv 2) (pv 4))))))
      (pss_one (ps_asg (pe_gcx (by rfl) T.c_ALIVE) (pg_sub (pe_ix ix_list (pv 6) (pe_op op_sub (pv 7) (pv 1)) (fun _ _ => rfl)) (pe_op op_sub (pv 8) (pv 2)) set_list)))
      pss_nil)))
      (pss_one (ps_ret (pe_lc (own := [("line", 11)]) (g := gName 11) (tt := tYes) rfl sc_World_window.nd (pi_list (pv 6)) (blkOk_by (own := [("line", 11)]) (N := N_World_window) (sc := defScope s_World_window) (by decide +kernel)) (fun _ _ _ _ _ => pg_name (i := 11) sc_World_window.nd rfl (Or.inl rfl)) (fun _ _ _ _ _ => pts_nil) (fun _ _ _ _ _ => (pe_joinK (K := K) rfl pe_str (pv 11))))))))), ?_⟩
    k_upd
    have n18 : ((r + (h : Int) - 1) / 32 + 1 - r / 32).toNat ≤ 8 := by omega
    have n28 : ((c + (wd : Int) - 1) / 32 + 1 - c / 32).toNat ≤ 8 := by omega
    have pl8 : ∀ i, i ≤ 8 → (plW (r / 32) (c / 32) ((c + (wd : Int) - 1) / 32 + 1 - c / 32).toNat i).length ≤ 64 := fun i hi => by
      rw [plW_len]
      exact Nat.mul_le_mul hi n28
    refine ⟨_, rfl, _, _, rfl, rfl, ⟨by decide, by decide⟩, _, rfl, _, rfl, _, _, rfl, rfl, _, _, rfl, rfl, _, _, rfl, rfl, ⟨by decide, by decide⟩, _, _, rfl, rfl, _, _, rfl, ⟨by omega, by omega, by omega, by omega⟩, fun D1 nD1 => lc2_range (lo := r / 32) (n := ((r + (h : Int) - 1) / 32 + 1 - r / 32).toNat)
      (fun i H' => Same H H' ∧ Cells H' D1 (plW (r / 32) (c / 32) ((c + (wd : Int) - 1) / 32 + 1 - c / 32).toNat i)) ⟨newS nD1, [], upd_same, fun _ m => (by cases m), rfl⟩ ?_ ?_⟩
    · rintro i H' hi ⟨sm, hC⟩
      refine ⟨rfl, tyesT ?_⟩
      refine ⟨_, rfl, _, _, rfl, rfl, ⟨by decide, by decide⟩, _, rfl, _, rfl, _, _, rfl, rfl, _, _, rfl, rfl, _, _, rfl, rfl, ⟨by decide, by decide⟩, _, _, rfl, rfl, _, _, rfl, ⟨by omega, by omega, by omega, by omega⟩, lc2_range (lo := c / 32) (n := ((c + (wd : Int) - 1) / 32 + 1 - c / 32).toNat)
        (fun j H2 => Same H H2 ∧ Cells H2 D1 (plW (r / 32) (c / 32) ((c + (wd : Int) - 1) / 32 + 1 - c / 32).toNat i ++ plRow (r / 32) (c / 32) j i)) ⟨sm, by rw [show plRow (r / 32) (c / 32) 0 i = [] from rfl, List.append_nil]; exact hC⟩ ?_ ?_⟩
      · rintro j H2 hj ⟨sm2, hC2⟩
        refine ⟨rfl, tyesT ⟨_, rfl, _, rfl, (by k_clsL), fun t nt => ?_⟩⟩
        k_invariant "new" (nt, H3, e3, g3)
        obtain ⟨acc, a1, a2, a3⟩ := cells_push (x := (r / 32 + (i : Int), c / 32 + (j : Int))) hC2 e3 g3
        refine ⟨acc, a1, ?_, mutS (sm2.trans e3) nD1, ?_⟩
        · have := pl8 i (by omega)
          rw [a2, List.length_append, sizeLine_eq]
          unfold plRow
          rw [List.length_map, List.length_range]
          omega
        · unfold plRow at a3 ⊢
          rw [List.range_succ, List.map_append, ← List.append_assoc]
          exact a3
      · rintro H2 ⟨sm2, hC2⟩
        exact ⟨sm2, hC2⟩
    · rintro H1 ⟨e1, hPL⟩
      have lPL := pl8 _ n18
      obtain ⟨PL, ePL⟩ : ∃ PL, PL = plW (r / 32) (c / 32) ((c + (wd : Int) - 1) / 32 + 1 - c / 32).toNat ((r + (h : Int) - 1) / 32 + 1 - r / 32).toNat := ⟨_, rfl⟩
      rw [← ePL] at hPL lPL
      have inPL : ∀ (a b : Nat), a < h → b < wd → placeP (r + (a : Int), c + (b : Int)) ∈ PL := fun a b ha hb => by
        rw [ePL]
        refine plW_mem ?_ ?_ ?_ ?_
        · show r / 32 ≤ (r + (a : Int)) / 32
          omega
        · show (r + (a : Int)) / 32 < _
          omega
        · show c / 32 ≤ (c + (b : Int)) / 32
          omega
        · show (c + (b : Int)) / 32 < _
          omega
      k_upd
      refine ⟨_, rfl, _, rfl, by omega, by omega, fun D2 nD2 => lc_range (lo := 0) (n := ((h : Int)).toNat) (fun i H' => Same H1 H' ∧ ∃ rs : List Addr, H' D2 = some (.lst (rs.map V.ref)) ∧ rs.length = i ∧ rs.Nodup ∧ ∀ a ∈ rs, H' a = some (.lst (rowM (fun _ => false) (r + 0) c wd)) ∧ H1 a = none ∧ a ≠ D2)
        ⟨newS nD2, [], upd_same, rfl, List.nodup_nil, fun _ m => (by cases m)⟩ ?_ ?_⟩
      · rintro i H' hi ⟨sm, rs, g1, lr, nr, ar⟩
        refine ⟨rfl, tyesT ⟨by k_clsL, fun l1 nl1 => ?_⟩⟩
        k_invariant "new" (nl1, H2, e2, g2)
        refine ⟨_, rfl, _, _, _, rfl, rfl, g2, by omega, by omega, by show 1 * _ ≤ _; rw [sizeLine_eq]; omega, fun p2 np2 => ?_⟩
        rw [rep_flat, Int.toNat_natCast, ← rowM_none (r + 0) c wd]
        k_invariant "new" (np2, H3, e3, g3)
        have g13 := e3 _ _ (e2 _ _ g1)
        have nH1 : H1 p2 = none := backS (sm.trans e2) np2
        have nD : p2 ≠ D2 := fun e => by rw [e, e2 _ _ g1] at np2; cases np2
        refine ⟨_, g13, by rw [List.length_map, sizeLine_eq]; omega, mutS (sm.trans (e2.trans e3)) nD2, rs ++ [p2], by rw [upd_same, List.map_append]; rfl, by rw [List.length_append, lr]; rfl, ?_, fun a m => ?_⟩
        · refine List.pairwise_append.mpr ⟨nr, List.pairwise_cons.mpr ⟨fun _ m => (by cases m), List.Pairwise.nil⟩, fun a ma b mb e => ?_⟩
          rw [List.mem_singleton.mp mb] at e
          have := e2 _ _ (ar a ma).1
          rw [e, np2] at this
          cases this
        · rcases List.mem_append.mp m with m | m
          · obtain ⟨x1, x2, x3⟩ := ar a m
            exact ⟨by rw [upd_ne x3]; exact e3 _ _ (e2 _ _ x1), x2, x3⟩
          · rw [List.mem_singleton.mp m]
            exact ⟨by rw [upd_ne nD]; exact g3, nH1, nD⟩
      · rintro H2 ⟨e2, rs, g2, lr, nr, ar⟩
        rw [Int.toNat_natCast] at lr
        k_upd
        obtain ⟨dx, ho⟩ := id hW
        have s2 : Same H H2 := e1.trans e2
        have ho2 := s2 _ _ ho
        have hL2 := hL.up s2
        obtain ⟨ts, hts, htt, ets⟩ := hPL.up e2
        have lts : ts.length = PL.length := by rw [← ets, List.length_map]
        refine ⟨_, rfl, W, _, _, rfl, ho2, rfl, _, rfl, _, rfl, ⟨_, lst_of hts⟩, fun D3 nD3 => lc_list (K := K) (a := D1) (xs := ts.map fun t => V.ref t.1) (fun i H' => Same H2 H' ∧ ∃ us : List (Addr × Pr), H' D3 = some (.lst (us.map fun t => V.ref t.1)) ∧ (∀ u ∈ us, H' u.1 = some (.tup [.int u.2.1, .int u.2.2])) ∧ us.map (·.2) = (PL.take i).filter fun p => decide (p ∈ ks))
          ⟨newS nD3, [], upd_same, fun _ m => (by cases m), rfl⟩ (fun i H' _ p => lst_of (p.1 _ _ hts)) ?_ ?_⟩
        · rintro i x H' hi ⟨sm, us, g3, hu3, eu3⟩
          obtain ⟨t, mt, rfl, hz⟩ := item_cells (H := H') hi rfl
          rw [ets] at hz
          have ht' := sm _ _ (htt t mt)
          refine ⟨rfl, _, rfl, _, rfl, W, _, _, _, _, rfl, sm _ _ ho2, T.cl_World, T.na_World__living, rfl, D, _, rfl, (hL2.up sm).dct.dget (x := t.2) ht', ?_⟩
          have li : i < ts.length := by
            have := (List.getElem?_eq_some_iff.mp hi).1
            rwa [List.length_map] at this
          have lus : us.length ≤ i := by
            have h9 := congrArg List.length eu3
            rw [List.length_map] at h9
            have h10 := List.length_filter_le (fun p => decide (p ∈ ks)) (PL.take i)
            rw [List.length_take] at h10
            omega
          by_cases hk : t.2 ∈ ks
          · rw [if_pos hk]
            refine ⟨_, rfl, iteT ⟨_, rfl, _, g3, by rw [List.length_map, sizeLine_eq]; omega, mutS sm nD3, us ++ [t], by rw [upd_same, List.map_append]; rfl, fun u m => ?_, ?_⟩⟩
            · have off : ∀ b o, H' b = some o → (∀ xs, o ≠ .lst xs) → upd H' D3 (.lst ((us.map fun t => V.ref t.1) ++ [.ref t.1])) b = some o := fun b o k ne => by
                rw [upd_ne fun z => ?_]
                · exact k
                · rw [z, g3] at k
                  exact ne _ (Option.some.inj k).symm
              rcases List.mem_append.mp m with m | m
              · exact off _ _ (hu3 u m) (fun _ z => by cases z)
              · rw [List.mem_singleton.mp m]
                exact off _ _ ht' (fun _ z => by cases z)
            · rw [take_next hz, List.filter_append, List.map_append, eu3]
              congr 1
              simp [hk]
          · rw [if_neg hk]
            refine ⟨_, rfl, iteF ⟨sm, us, g3, hu3, ?_⟩⟩
            rw [take_next hz, List.filter_append, eu3]
            simp [hk]
        · rintro H3 ⟨e3, us, g3, hu3, eu3⟩
          rw [List.length_map, lts, List.take_length] at eu3
          obtain ⟨pl, epl⟩ : ∃ pl, pl = PL.filter fun p => decide (p ∈ ks) := ⟨_, rfl⟩
          rw [← epl] at eu3
          have hC3 : Cells H3 D3 pl := ⟨us, g3, hu3, eu3⟩
          have lpl : pl.length ≤ 64 := by
            rw [epl]
            exact Nat.le_trans (List.length_filter_le _ _) lPL
          have cw := cellsW_le (g := g) pl
          refine ⟨W, ru, S, D, D3, gen, ks, g, pl, rfl, (hW.up s2).up e3, hL2.up e3, .inr hC3, fun p m => ?_, by omega, by omega, fun H4 p4 n4 e4 h4 => ?_⟩
          · rw [epl] at m
            exact of_decide_eq_true (List.mem_filter.mp m).2
          have inM : ∀ (a b : Nat), a < h → b < wd → ((r + (a : Int), c + (b : Int)) ∈ cellsW pl g ↔ inB g (r + (a : Int), c + (b : Int)) = true) := fun a b ha hb => by
            rw [cellsW_mem]
            refine ⟨fun z => z.2, fun t => ⟨?_, t⟩⟩
            rw [epl]
            refine List.mem_filter.mpr ⟨inPL a b ha hb, decide_eq_true ?_⟩
            exact (cellsW_mem.mp ((hL.mem _).mpr t)).1
          obtain ⟨fs, efs⟩ : ∃ fs, fs = cellsW pl g := ⟨_, rfl⟩
          rw [← efs] at h4 inM cw
          obtain ⟨ws, w1', w2', w3'⟩ := id h4
          have lws : ws.length = fs.length := by rw [← w3', List.length_map]
          refine ⟨p4, rfl, ⟨_, lst_of w1'⟩, ?_⟩
          have s4 : Same H2 H4 := e3.trans e4
          have g24 := s4 _ _ g2
          have ar4 : ∀ a ∈ rs, H4 a = some (.lst (rowM (fun _ => false) (r + 0) c wd)) := fun a m => s4 _ _ (ar a m).1
          have nD2r : D2 ∉ rs := fun m => (ar D2 m).2.2 rfl
          have n4r : p4 ∉ rs := fun m => by
            have := s2.trans s4 |>.trans (Same.refl H4)
            have z := s4 _ _ (ar p4 m).1
            have z2 := e4 _ _ (e3 _ _ (ar p4 m).1)
            have z3 := e3 _ _ (ar p4 m).1
            rw [n4] at z3
            cases z3
          refine for_list (K := K) (a := p4) (xs := ws.map fun t => V.ref t.1) (fun i σ H' => (∀ b o, b ∉ rs → H4 b = some o → H' b = some o) ∧ (∃ x7 x8 x9 x10 x11 : Option V, σ = [some (.ref W), some (.int r), some (.int c), some (.int (h : Int)), some (.int (wd : Int)), some (.ref D1), some (.ref D2), x7, x8, x9, x10, x11]) ∧
            ∀ (a : Nat) (ad : Addr), rs[a]? = some ad → H' ad = some (.lst (rowM (fun y => decide (y ∈ fs.take i)) (r + (a : Int)) c wd)))
            ⟨fun _ _ _ k => k, ⟨_, _, _, _, _, rfl⟩, fun a ad ha => by
              rw [ar4 ad (List.mem_of_getElem? ha)]
              have e1 := rowM_none (r + 0) c wd
              have e2 := rowM_none (r + (a : Int)) c wd
              rw [e1]
              have : (fun y : Pr => decide (y ∈ fs.take 0)) = fun _ => false := funext fun y => by simp
              rw [this, e2]⟩ (fun i σ H' _ p => lst_of (p.1 _ _ n4r w1')) ?_ ?_
          · rintro i x σ H' hi ⟨sm, ⟨x7, x8, x9, x10, x11, rfl⟩, hrow⟩
            obtain ⟨t, mt, rfl, hz⟩ := item_cells (H := H') hi rfl
            rw [w3'] at hz
            have htt' := w2' t mt
            have ntr : t.1 ∉ rs := fun m => by rw [ar4 t.1 m] at htt'; cases htt'
            have ht' := sm _ _ ntr htt'
            obtain ⟨z, ez⟩ : ∃ z, z = t.2 := ⟨_, rfl⟩
            rw [← ez] at hz ht'
            have nxt : ∀ y, decide (y ∈ fs.take (i + 1)) = (decide (y = z) || decide (y ∈ fs.take i)) := fun y => by
              rw [take_next hz, Bool.eq_iff_iff]
              simp [or_comm]
            have skip : ¬ (r ≤ z.1 ∧ z.1 < r + (h : Int) ∧ c ≤ z.2 ∧ z.2 < c + (wd : Int)) → ∀ (a : Nat) (ad : Addr), rs[a]? = some ad → H' ad = some (.lst (rowM (fun y => decide (y ∈ fs.take (i + 1))) (r + (a : Int)) c wd)) := fun no a ad ha => by
              rw [hrow a ad ha]
              have la := (List.getElem?_eq_some_iff.mp ha).1
              have e : rowM (fun y => decide (y ∈ fs.take (i + 1))) (r + (a : Int)) c wd = rowM (fun y => decide (y ∈ fs.take i)) (r + (a : Int)) c wd := by
                unfold rowM
                refine List.map_congr_left fun b mb => ?_
                have lb := List.mem_range.mp mb
                show V.str (sgC (decide ((r + (a : Int), c + (b : Int)) ∈ fs.take (i + 1)))) = V.str (sgC (decide ((r + (a : Int), c + (b : Int)) ∈ fs.take i)))
                rw [nxt, decide_eq_false (fun e => no (by
                  rw [← e]
                  show r ≤ r + (a : Int) ∧ r + (a : Int) < r + (h : Int) ∧ c ≤ c + (b : Int) ∧ c + (b : Int) < c + (wd : Int)
                  omega)), Bool.false_or]
              rw [e]
            refine ⟨t.1, _, rfl, tup_of ht', rfl, _, _, rfl, _, _, rfl, rfl, ?_⟩
            k_upd
            refine ⟨_, rfl, _, rfl, _, _, rfl, rfl, _, rfl, ite2 (fun a1 => ?_) (fun a1 => ?_)⟩
            · have a1 := of_decide_eq_true a1
              refine ⟨_, rfl, _, rfl, _, _, rfl, rfl, _, _, rfl, rfl, _, rfl, ite2 (fun a2 => ?_) (fun a2 => ?_)⟩
              · have a2 := of_decide_eq_true a2
                refine ⟨_, rfl, _, rfl, _, _, rfl, rfl, _, rfl, ite2 (fun a3 => ?_) (fun a3 => ?_)⟩
                · have a3 := of_decide_eq_true a3
                  refine ⟨_, rfl, _, rfl, _, _, rfl, rfl, _, _, rfl, rfl, _, rfl, ite2 (fun a4 => ?_) (fun a4 => ?_)⟩
                  · have a4 := of_decide_eq_true a4
                    obtain ⟨a0, ea0⟩ : ∃ a0 : Nat, z.1 = r + (a0 : Int) := ⟨(z.1 - r).toNat, by omega⟩
                    obtain ⟨b0, eb0⟩ : ∃ b0 : Nat, z.2 = c + (b0 : Int) := ⟨(z.2 - c).toNat, by omega⟩
                    have a0h : a0 < rs.length := by omega
                    have b0w : b0 < wd := by omega
                    have hra : rs[a0]? = some rs[a0] := List.getElem?_eq_getElem a0h
                    have hz0 := hrow a0 _ hra
                    have at1 : atI (rs.map V.ref) (z.1 - r) = some (.ref rs[a0]) := by
                      rw [show z.1 - r = (a0 : Int) by omega]
                      exact atI_nat (by rw [List.getElem?_map, hra]; rfl)
                    have ix1 : ixN (rowM (fun y => decide (y ∈ fs.take i)) (r + (a0 : Int)) c wd).length (z.2 - c) = some b0 := by
                      unfold ixN rowM
                      rw [List.length_map, List.length_range, if_pos (by omega), if_pos (by omega)]
                      congr 1
                      omega
                    refine ⟨_, rfl, _, rfl, _, rfl, _, _, rfl, rfl, _, _, _, _, rfl, rfl, lst_of (sm _ _ nD2r g24), at1, _, rfl, _, rfl, _, _, rfl, rfl, _, _, _, _, rfl, rfl, hz0, ix1, ?_⟩
                    rw [rowM_set b0w]
                    refine ⟨fun b o nb k => ?_, ⟨_, _, _, _, _, rfl⟩, fun a ad ha => ?_⟩
                    · rw [upd_ne fun e => nb (by rw [e]; exact List.mem_of_getElem? hra)]
                      exact sm _ _ nb k
                    · by_cases ea : a = a0
                      · subst ea
                        obtain rfl : ad = rs[a] := Option.some.inj (ha.symm.trans hra)
                        rw [upd_same]
                        have : (fun y : Pr => decide (y = (r + (a : Int), c + (b0 : Int))) || decide (y ∈ fs.take i)) = fun y => decide (y ∈ fs.take (i + 1)) := funext fun y => by
                          rw [nxt]
                          have : z = (r + (a : Int), c + (b0 : Int)) := Prod.ext ea0 eb0
                          rw [this]
                        rw [this]
                      · have la := (List.getElem?_eq_some_iff.mp ha).1
                        have ead := (List.getElem?_eq_some_iff.mp ha).2
                        have nad : ad ≠ rs[a0] := fun e => ea ((List.getElem_inj nr (h₀ := la) (h₁ := a0h)).mp (ead.trans e))
                        rw [upd_ne nad, hrow a ad ha]
                        have e : rowM (fun y => decide (y ∈ fs.take (i + 1))) (r + (a : Int)) c wd = rowM (fun y => decide (y ∈ fs.take i)) (r + (a : Int)) c wd := by
                          unfold rowM
                          refine List.map_congr_left fun b mb => ?_
                          show V.str (sgC (decide ((r + (a : Int), c + (b : Int)) ∈ fs.take (i + 1)))) = V.str (sgC (decide ((r + (a : Int), c + (b : Int)) ∈ fs.take i)))
                          rw [nxt, decide_eq_false (fun e => by
                            have : r + (a : Int) = z.1 := congrArg Prod.fst e
                            omega), Bool.false_or]
                        rw [e]
                  · exact ⟨sm, ⟨_, _, _, _, _, rfl⟩, skip fun y => a4 (decide_eq_true y.2.2.2)⟩
                · exact ⟨_, rfl, iteF ⟨sm, ⟨_, _, _, _, _, rfl⟩, skip fun y => a3 (decide_eq_true y.2.2.1)⟩⟩
              · exact ⟨sm, ⟨_, _, _, _, _, rfl⟩, skip fun y => a2 (decide_eq_true y.2.1)⟩
            · exact ⟨_, rfl, iteF ⟨sm, ⟨_, _, _, _, _, rfl⟩, skip fun y => a1 (decide_eq_true y.1)⟩⟩
          · rintro σ H' ⟨sm, ⟨x7, x8, x9, x10, x11, rfl⟩, hrow⟩
            rw [List.length_map, lws, List.take_length] at hrow
            have g25 := sm _ _ nD2r g24
            refine ⟨_, rfl, _, rfl, ⟨_, lst_of g25⟩, fun L nL => lc_list (K := K) (a := D2) (xs := rs.map V.ref) (fun i H9 => Same H' H9 ∧ H9 L = some (.lst (((List.range h).take i).map fun (a : Nat) => V.str (winS (inB g) (r + (a : Int)) c wd))))
              ⟨newS nL, upd_same⟩ (fun i H9 _ p => lst_of (p.1 _ _ g25)) ?_ ?_⟩
            · rintro i x H9 hi ⟨sm9, h9⟩
              rw [List.getElem?_map] at hi
              cases hra : rs[i]? with
              | none => rw [hra] at hi; cases hi
              | some ad =>
                rw [hra] at hi
                obtain rfl : V.ref ad = x := Option.some.inj hi
                have li := (List.getElem?_eq_some_iff.mp hra).1
                have hr9 := sm9 _ _ (hrow i ad hra)
                have erow : rowM (fun y => decide (y ∈ fs)) (r + (i : Int)) c wd = ((List.range wd).map fun (b : Nat) => sgC (inB g (r + (i : Int), c + (b : Int)))).map V.str := by
                  unfold rowM
                  rw [List.map_map]
                  refine List.map_congr_left fun b mb => ?_
                  show V.str (sgC (decide ((r + (i : Int), c + (b : Int)) ∈ fs))) = V.str (sgC (inB g (r + (i : Int), c + (b : Int))))
                  have : decide ((r + (i : Int), c + (b : Int)) ∈ fs) = inB g (r + (i : Int), c + (b : Int)) := by
                    rw [Bool.eq_iff_iff, decide_eq_true_eq]
                    exact inM i b (by omega) (List.mem_range.mp mb)
                  rw [this]
                rw [erow] at hr9
                have hri : (List.range h)[i]? = some i := List.getElem?_range (by omega)
                refine ⟨rfl, tyesT ⟨⟨_, rfl⟩, _, rfl, _, _, _, rfl, rfl, .inl (lst_of hr9), ?_, _, h9, ?_, mutS sm9 nL, ?_⟩⟩
                · have : (((List.range wd).map fun (b : Nat) => sgC (inB g (r + (i : Int), c + (b : Int)))).map (·.length)).sum ≤ wd := by
                    rw [List.map_map]
                    have : ((List.range wd).map ((·.length) ∘ fun (b : Nat) => sgC (inB g (r + (i : Int), c + (b : Int))))) = (List.range wd).map fun _ => 1 := List.map_congr_left fun b _ => sgC_len _
                    rw [this, List.map_const', List.sum_replicate_nat, List.length_range]
                    omega
                  rw [show (Str.ofString "").length = 0 by decide +kernel]
                  omega
                · rw [List.length_map, List.length_take, sizeLine_eq]
                  rw [List.length_range]
                  omega
                · rw [upd_same, take_next hri, List.map_append]
                  rfl
            · rintro H9 ⟨sm9, h9⟩
              rw [List.length_map, lr, List.take_of_length_le (by rw [List.length_range]; exact Nat.le_refl _)] at h9
              have sHH : Same H H' := fun b o k => sm _ _ (fun m => by
                have := s2 _ _ k
                have z := (ar b m).2.1
                have := e1 _ _ k
                rw [z] at this
                cases this) (s4 _ _ (s2 _ _ k))
              exact q H9 L (backS sHH nL) (sHH.trans sm9) h9
end
end My
namespace My
open PySem PySem.Spec PyProof.Rows L2 Vx
open TL
local macro_rules | `(tactic| k_invariant "new" ($n, $H:ident, $e:ident, $h:ident)) => `(tactic| (generalize hE : upd _ _ _ = $H; obtain ⟨$e:ident, $h:ident⟩ := gen_e hE $n; clear hE))
local macro_rules | `(tactic| k_places) => `(tactic| first
  | assumption
  | exact lst_of (by assumption)
  | exact tup_of (by assumption)
  | (refine getS (by assumption) ?_; k_places)
  | (refine Same.seq (by assumption) ?_; k_places)
  | (refine tupS (by assumption) ?_; k_places)
  | (refine lst_of ?_; k_places)
  | (refine tup_of ?_; k_places))
local macro_rules | `(tactic| k_subL) => `(tactic| first
  | k_places
  | solve_by_elim (maxDepth := 10) [getS, lst_of, tup_of, Same.seq, tupS])
local macro_rules | `(tactic| k_offL) => `(tactic| first
  | (show (0 : Int) < _; first | omega | decide)
  | (refine ⟨?_, ?_⟩ <;> first | omega | decide)
  | exact .inr ⟨by decide, by decide⟩
  | exact .inl ⟨by decide, by decide⟩
  | exact .inl ⟨by omega, by omega⟩
  | omega)
local macro_rules | `(tactic| k_clsL) => `(tactic| exact Nat.le_of_ble_eq_true rfl)
local macro_rules | `(tactic| k_upd) => `(tactic| simp only [L2.start, List.map_cons, List.map_nil, List.length_cons, List.length_nil, List.replicate_succ, List.replicate_zero, List.cons_append, List.nil_append, List.set_cons_zero, List.set_cons_succ])
section
variable {P : Program} {w : World} {K : PySem.W.Frag} {mg : Str → Option Value} {base : Heap}
/-! ### what the law keeps of the living cells -/
structure AlIs (H : Hp) (al : Addr) (aks : List Pr) (A : Pr → Bool) : Prop where
  dct : Dct H al aks (fun p => .bl (A p))
  off : ∀ p, p ∉ aks → A p = false
theorem AlIs.up {H H' : Hp} {al : Addr} {aks : List Pr} {A : Pr → Bool} (h : AlIs H al aks A) (e : Same H H') : AlIs H' al aks A := ⟨h.dct.up e, h.off⟩
theorem AlIs.sb {H H' : Hp} {al X : Addr} {aks : List Pr} {A : Pr → Bool} (h : AlIs H al aks A) (e : Sb X H H') (n : al ≠ X) : AlIs H' al aks A := by
  obtain ⟨⟨kvs, h1, h2⟩, h3⟩ := h
  exact ⟨⟨kvs, e _ _ n h1, h2⟩, h3⟩
theorem AlIs.getD {H : Hp} {al : Addr} {aks : List Pr} {A : Pr → Bool} (h : AlIs H al aks A) (p : Pr) : (if p ∈ aks then some (V.bl (A p)) else none : Option V).getD (.bl false) = .bl (A p) := by
  by_cases m : p ∈ aks
  · rw [if_pos m]
    rfl
  · rw [if_neg m, h.off p m]
    rfl
theorem AlIs.put {H H' : Hp} {al : Addr} {aks : List Pr} {A : Pr → Bool} {x : Pr} {b : Bool} (h : AlIs H al aks A) (pa : PutAt H al aks (fun p => .bl (A p)) x (.bl b) H') : AlIs H' al (addK aks x) (fun y => if y = x then b else A y) := by
  refine ⟨pa.1.congr fun y _ => ?_, fun y n => ?_⟩
  · unfold setG
    by_cases c : y = x
    · rw [if_pos c, if_pos c]
    · rw [if_neg c, if_neg c]
  · show (if y = x then b else A y) = false
    rw [addK_mem] at n
    rw [if_neg fun e => n (.inr e)]
    exact h.off y fun m => n (.inl m)
def sp_law_living : Sp := fun vs H Q _ => ∃ (al : Addr) (aks : List Pr) (A : Pr → Bool), vs = [.ref al] ∧ AlIs H al aks A ∧ aks.length < 1000000 ∧
  ∀ (H' : Hp) (p : Addr) (qs : List Pr), H p = none → Same H H' → Cells H' p qs → qs.Pairwise ltP → (∀ x, x ∈ qs ↔ A x = true) → qs.length ≤ aks.length → Q (.ref p) H'
theorem ok_law_living (T : Txt K mg) : FnOk P w K mg base CX0 1 T.f_law_living T.d_law_living ["alive"] sp_law_living := by
  refine T.F_law_living.ok sc_law_living (fun vs H Q E h => ?_) (fun cdv A outer s H vs Q E hr h => ?_)
  · obtain ⟨_, _, _, rfl, _⟩ := h
    rfl
  · obtain ⟨al, aks, Al, rfl, hA, few, q⟩ := h
    obtain ⟨kvs, hd, hm⟩ := id hA.dct
    have hu : (A.deeper (envOfC (Str.ofString "_law_living") (defScope s_law_living) s.heap.objs.size T.f_law_living cdv)).units + 1 < cLine := by
      have := hr.units
      omega
    refine ⟨_, (pss_one (ps_ret (pe_callB cr_sortedC (by rfl) T.z_sorted (by decide +kernel) (pa_cons (pe_lock (pe_lc (own := [("place", 1)]) (g := gName 1) rfl sc_law_living.nd (pi_keys (pv 0)) (blkOk_by (own := [("place", 1)]) (N := N_law_living) (sc := defScope s_law_living) (by decide +kernel)) (fun _ _ _ _ _ => pg_name (i := 1) sc_law_living.nd rfl (Or.inl rfl)) (fun _ _ _ _ _ => pts_one (pt_val (pe_dget hu (pv 0) (pv 1) (fun _ _ => rfl)))) (fun _ _ _ _ _ => (pv 1)))) pa_nil)))), ?_⟩
    have lk := hm.len
    refine ⟨al, _, hd, trivial, fun od => ⟨_, rfl, al, od, rfl, .inr ⟨kvs, upd_same, fun D nD => lc_it walk_keysT
      (fun i H' => Same (upd H al (.frz od (.dT kvs))) H' ∧ ∃ us : List (Addr × Pr), H' D = some (.lst (us.map fun t => V.ref t.1)) ∧ (∀ u ∈ us, H' u.1 = some (.tup [.int u.2.1, .int u.2.2])) ∧ us.map (·.2) = (aks.take i).filter fun p => Al p)
      ⟨newS nD, [], upd_same, fun _ m => (by cases m), rfl⟩ (fun i H' _ p => p.1 _ _ upd_same) ?_ ?_⟩⟩⟩
    · rintro i x H' H2 hi ⟨sm, us, g3, hu3, eu3⟩ ⟨rfl, k, v, q0, e, rfl, hq⟩
      obtain ⟨z, hz, rfl, rfl⟩ := hm.at e
      have zk := List.mem_of_getElem? hz
      have lus : us.length ≤ i := by
        have h9 := congrArg List.length eu3
        rw [List.length_map] at h9
        have h10 := List.length_filter_le (fun p => Al p) (aks.take i)
        rw [List.length_take] at h10
        omega
      have gal := sm _ _ upd_same
      have dg : DGet H2 al (.ref q0) (some (.bl (Al z))) := .inr ⟨kvs, keyP z, q0, .inr ⟨od, gal⟩, rfl, hq, by rw [hm.get, if_pos zk]⟩
      refine ⟨rfl, _, rfl, _, rfl, al, _, rfl, dg, _, rfl, ?_⟩
      cases hk : Al z with
      | true =>
        refine iteT ⟨_, rfl, _, g3, by rw [List.length_map, sizeLine_eq]; omega, mutS sm nD, us ++ [(q0, z)], by rw [upd_same, List.map_append]; rfl, fun u m => ?_, ?_⟩
        · have off : ∀ b o, H2 b = some o → (∀ xs, o ≠ .lst xs) → upd H2 D (.lst ((us.map fun t => V.ref t.1) ++ [.ref q0])) b = some o := fun b o k ne => by
            rw [upd_ne fun z => ?_]
            · exact k
            · rw [z, g3] at k
              exact ne _ (Option.some.inj k).symm
          rcases List.mem_append.mp m with m | m
          · exact off _ _ (hu3 u m) (fun _ z => by cases z)
          · rw [List.mem_singleton.mp m]
            exact off _ _ hq (fun _ z => by cases z)
        · rw [take_next hz, List.filter_append, List.map_append, eu3]
          congr 1
          simp [hk]
      | false =>
        refine iteF ⟨sm, us, g3, hu3, ?_⟩
        rw [take_next hz, List.filter_append, eu3]
        simp [hk]
    · rintro H' ⟨sm, us, g3, hu3, eu3⟩
      rw [lk, List.take_length] at eu3
      have gal := sm _ _ upd_same
      have nDa : D ≠ al := fun e => by rw [e, upd_same] at nD; cases nD
      refine ⟨gal, ?_⟩
      have off : ∀ b o, H' b = some o → (∀ x y, o ≠ .frz x y) → upd H' al (.dT kvs) b = some o := fun b o k ne => by
        rw [upd_ne fun z => ?_]
        · exact k
        · rw [z, gal] at k
          exact ne _ _ (Option.some.inj k).symm
      have sH : Same H (upd H' al (.dT kvs)) := fun b o h => by
        by_cases c : b = al
        · rw [c, hd] at h
          rw [c, upd_same]
          exact h
        · rw [upd_ne c]
          exact sm _ _ (by rw [upd_ne c]; exact h)
      have nd : (aks.filter fun p => Al p).Nodup := hm.2.filter _
      refine ⟨D, aks.filter fun p => Al p, rfl, ⟨us, off _ _ g3 (fun _ _ z => by cases z), fun u m => off _ _ (hu3 u m) (fun _ _ z => by cases z), eu3⟩, nd, fun p H2 qs e2 n2 h2 c2 l2 => ?_⟩
      refine q H2 p qs (backS sH n2) (sH.trans e2) h2 c2.1 (fun x => (c2.2 x).trans ?_) (by rw [l2]; exact List.length_filter_le _ _)
      rw [List.mem_filter]
      refine ⟨fun z => z.2, fun z => ⟨Classical.byContradiction fun n => ?_, z⟩⟩
      rw [hA.off x n] at z
      cases z
end
end My
namespace My
open PySem PySem.Spec PyProof.Rows L2 Vx
open TL
local macro_rules | `(tactic| k_invariant "new" ($n, $H:ident, $e:ident, $h:ident)) => `(tactic| (generalize hE : upd _ _ _ = $H; obtain ⟨$e:ident, $h:ident⟩ := gen_e hE $n; clear hE))
local macro_rules | `(tactic| k_places) => `(tactic| first
  | assumption
  | exact lst_of (by assumption)
  | exact tup_of (by assumption)
  | (refine getS (by assumption) ?_; k_places)
  | (refine Same.seq (by assumption) ?_; k_places)
  | (refine tupS (by assumption) ?_; k_places)
  | (refine lst_of ?_; k_places)
  | (refine tup_of ?_; k_places))
local macro_rules | `(tactic| k_subL) => `(tactic| first
  | k_places
  | solve_by_elim (maxDepth := 10) [getS, lst_of, tup_of, Same.seq, tupS])
local macro_rules | `(tactic| k_offL) => `(tactic| first
  | (show (0 : Int) < _; first | omega | decide)
  | (refine ⟨?_, ?_⟩ <;> first | omega | decide)
  | exact .inr ⟨by decide, by decide⟩
  | exact .inl ⟨by decide, by decide⟩
  | exact .inl ⟨by omega, by omega⟩
  | omega)
local macro_rules | `(tactic| k_clsL) => `(tactic| exact Nat.le_of_ble_eq_true rfl)
local macro_rules | `(tactic| k_upd) => `(tactic| simp only [L2.start, List.map_cons, List.map_nil, List.length_cons, List.length_nil, List.replicate_succ, List.replicate_zero, List.cons_append, List.nil_append, List.set_cons_zero, List.set_cons_succ])
section
variable {P : Program} {w : World} {K : PySem.W.Frag} {mg : Str → Option Value} {base : Heap}
theorem ok_law_cell (T : Txt K mg) : FnOk P w K mg base CX0 1 T.f_law_cell T.d_law_cell ["script", "k"] (spCell K) := by
  refine T.F_law_cell.ok sc_law_cell (fun vs H Q E h => ?_) (fun cdv A outer s H vs Q E hr h => ?_)
  · obtain ⟨l, ns, j, rfl, _⟩ := h
    rfl
  · obtain ⟨l, ns, j, rfl, hs, q⟩ := h
    refine ⟨_, (pss_cons (ps_if (pt_cmpR op_lt (pv 1) (pe_callB call_lenL (by rfl) T.z_len (by decide +kernel) (pa_cons (pv 0) pa_nil)) (nomark _))
      (pss_one (ps_ret (pe_callTy call_intI (by rfl) T.z_int (by decide +kernel) (pa_cons (pe_ix ix_list (pv 0) (pv 1) (fun _ _ => rfl)) pa_nil))))
      pss_nil)
      (pss_one (ps_ret pe_int))), ?_⟩
    refine ⟨_, rfl, _, rfl, _, _, rfl, hs, _, _, rfl, rfl, _, rfl, ite2 (fun c => ?_) (fun c => ?_)⟩
    · have hj : j < ns.length := by
        have z := of_decide_eq_true c
        rw [List.length_map] at z
        omega
      exact ⟨_, rfl, _, rfl, _, _, _, _, rfl, rfl, hs, atI_cell hj, _, rfl, q⟩
    · have hj : ¬ j < ns.length := fun z => c (decide_eq_true (by rw [List.length_map]; omega))
      rw [cell_out hj] at q
      exact q
/-! ### law_row: so many numbers from 0 to below the bound -/
def sp_law_row : Sp := fun vs H Q _ => ∃ (cell count bound : Int), vs = [.int cell, .int count, .int bound] ∧ 0 ≤ count ∧ count ≤ 100000 ∧ 0 < bound ∧ bound < 1000000000 ∧
  ∀ (H' : Hp) (p : Addr) (xs : List Int), H p = none → Same H H' → H' p = some (.lst (xs.map V.int)) → (xs.length : Int) = count → (∀ x ∈ xs, 0 ≤ x ∧ x < bound) → Q (.ref p) H'
theorem ok_law_row (T : Txt K mg) : FnOk P w K mg base CX0 1 T.f_law_row T.d_law_row ["cell", "count", "bound"] sp_law_row := by
  refine T.F_law_row.ok sc_law_row (fun vs H Q E h => ?_) (fun cdv A outer s H vs Q E hr h => ?_)
  · obtain ⟨_, _, _, rfl, _⟩ := h
    rfl
  · obtain ⟨cell, count, bound, rfl, c0, c1, b0, b1, q⟩ := h
    refine ⟨_, (pss_cons (ps_set (i := 3) sc_law_row.nd rfl (.inl rfl) (pe_callB call_abs (by rfl) T.z_abs (by decide +kernel) (pa_cons (pe_callTy call_intI (by rfl) T.z_int (by decide +kernel) (pa_cons (pv 0) pa_nil)) pa_nil)))
      (pss_cons (ps_set (i := 4) sc_law_row.nd rfl (.inl rfl) (pe_op op_add (pe_op op_mod (pe_callTy call_intI (by rfl) T.z_int (by decide +kernel) (pa_cons (pv 0) pa_nil)) pe_int) pe_int))
      (pss_cons (ps_set (i := 5) sc_law_row.nd rfl (.inl rfl) (pe_lst pa_nil))
      (pss_cons (ps_for PassesOwn.never rfl (pi_range1 (by rfl) T.z_range (pa_cons (pv 1) pa_nil)) (pg_name (i := 6) sc_law_row.nd rfl (.inl rfl))
      (pss_one (ps_if (pt_cmpR op_ge (pv 3) (pv 2) (nomark _))
      (pss_cons (ps_expr (pe_bm PySem.F.plainAttrs_list PySem.F.slot_list_append PySem.F.type_list_append mt_append (pv 5) (pa_cons (pe_op op_mod (pe_callTy call_intI (by rfl) T.z_int (by decide +kernel) (pa_cons (pv 3) pa_nil)) (pv 2)) pa_nil)))
      (pss_one (ps_set (i := 3) sc_law_row.nd rfl (.inl rfl) (pe_op op_fdiv (pv 3) (pv 2)))))
      (pss_cons (ps_set (i := 4) sc_law_row.nd rfl (.inl rfl) (pe_op op_mod (pe_callTy call_intI (by rfl) T.z_int (by decide +kernel) (pa_cons (pe_op op_add (pe_op op_add (pe_op op_mul (pv 4) pe_int) (pe_op op_mul pe_int (pv 6))) pe_int) pa_nil)) pe_int))
      (pss_one (ps_expr (pe_bm PySem.F.plainAttrs_list PySem.F.slot_list_append PySem.F.type_list_append mt_append (pv 5) (pa_cons (pe_op op_mod (pe_callTy call_intI (by rfl) T.z_int (by decide +kernel) (pa_cons (pe_op op_fdiv (pe_op op_mul (pv 4) pe_int) pe_int) pa_nil)) (pv 2)) pa_nil))))))))
      (pss_one (ps_ret (pv 5))))))), ?_⟩
    refine ⟨_, rfl, _, rfl, _, rfl, _, rfl, _, rfl, _, _, rfl, rfl, (by k_offL), _, _, rfl, rfl, Nat.zero_le _, fun p1 n1 => ?_⟩
    k_invariant "new" (n1, H1, e1, h1)
    refine ⟨_, rfl, _, rfl, by omega, by omega, for_range (lo := 0) (n := count.toNat) (fun i σ H' => ∃ (rest mixed : Int) (xs : List Int) (v : Option V), σ = [some (.int cell), some (.int count), some (.int bound), some (.int rest), some (.int mixed), some (.ref p1), v] ∧
      Same H H' ∧ H' p1 = some (.lst (xs.map V.int)) ∧ xs.length = i ∧ (∀ x ∈ xs, 0 ≤ x ∧ x < bound) ∧ 0 ≤ mixed ∧ mixed < 4294967296) ?_ ?_ ?_⟩
    · refine ⟨_, _, [], none, rfl, e1, h1, rfl, by simp, ?_, ?_⟩
      · have := Int.emod_nonneg cell (show (1000003 : Int) ≠ 0 by decide)
        omega
      · have := Int.emod_lt_of_pos cell (show (0 : Int) < 1000003 by decide)
        omega
    · rintro i σ H' hi ⟨rest, mixed, xs, v, rfl, sm, hp, hl, hx, m0, m1⟩
      refine ⟨_, rfl, _, rfl, _, _, rfl, rfl, _, rfl, ite2 (fun c => ?_) (fun c => ?_)⟩
      · refine ⟨_, rfl, .inl ⟨rfl, _, lst_of hp⟩, _, rfl, _, rfl, _, rfl, _, _, rfl, rfl, b0, _, _, _, rfl, rfl, hp, ?_, ?_⟩
        · rw [List.length_map]
          exact Nat.lt_of_lt_of_le (show xs.length < 100001 by omega) (by decide)
        · refine ⟨_, rfl, _, rfl, _, _, rfl, rfl, ⟨b0, by omega⟩, _, _, xs ++ [rest % bound], _, rfl, mutS sm n1, ?_, by simp [hl], fun x h => ?_, m0, m1⟩
          · rw [upd_same]
            simp
          · rcases List.mem_append.mp h with h | h
            · exact hx x h
            · rw [List.mem_singleton.mp h]
              exact ⟨Int.emod_nonneg _ (by omega), Int.emod_lt_of_pos _ b0⟩
      · refine ⟨_, rfl, _, _, rfl, rfl, .inr ⟨by decide, by decide⟩, _, rfl, _, _, rfl, rfl, .inl ⟨by decide, by decide⟩, _, _, rfl, rfl, _, _, rfl, rfl, _, rfl, _, _, rfl, rfl, (by k_offL), ?_⟩
        refine ⟨_, rfl, .inl ⟨rfl, _, lst_of hp⟩, _, rfl, _, _, rfl, rfl, .inr ⟨by decide, by decide⟩, _, _, rfl, rfl, ⟨by decide, by decide⟩, _, rfl, _, rfl, _, _, rfl, rfl, b0, _, _, _, rfl, rfl, hp, ?_, ?_⟩
        · rw [List.length_map]
          exact Nat.lt_of_lt_of_le (show xs.length < 100001 by omega) (by decide)
        · refine ⟨_, _, xs ++ [(mixed * 48271 + 11 * (0 + (i : Int)) + 7) % 2147483647 * 2862933555777941757 / 1024 % bound], _, rfl, mutS sm n1, ?_, by simp [hl], fun x h => ?_, Int.emod_nonneg _ (by decide), ?_⟩
          · rw [upd_same, List.map_append]
            rfl
          · rcases List.mem_append.mp h with h | h
            · exact hx x h
            · rw [List.mem_singleton.mp h]
              exact ⟨Int.emod_nonneg _ (by omega), Int.emod_lt_of_pos _ b0⟩
          · exact Int.lt_trans (Int.emod_lt_of_pos _ (by decide)) (by decide)
    · rintro σ H' ⟨rest, mixed, xs, v, rfl, sm, hp, hl, hx, _, _⟩
      exact ⟨_, rfl, q H' p1 xs n1 sm hp (by omega) hx⟩
/-! ### law_some: some cells of a box, ascending -/
def sp_law_some : Sp := fun vs H Q _ => ∃ (cell count h v : Int), vs = [.int cell, .int count, .int h, .int v] ∧ 0 ≤ count ∧ count ≤ 1000 ∧ 0 < h ∧ h ≤ 1000 ∧ 0 < v ∧ v ≤ 1000 ∧
  ∀ (H' : Hp) (p : Addr) (ps : List Pr), H p = none → Same H H' → Cells H' p ps → ps.Pairwise ltP → (ps.length : Int) ≤ count → (∀ x ∈ ps, 0 ≤ x.1 ∧ x.1 < h ∧ 0 ≤ x.2 ∧ x.2 < v) → Q (.ref p) H'
theorem ok_law_some (T : Txt K mg) : FnOk P w K mg base CX0 2 T.f_law_some T.d_law_some ["cell", "count", "height", "width"] sp_law_some := by
  refine T.F_law_some.ok sc_law_some (fun vs H Q E h => ?_) (fun cdv A outer s H vs Q E hr h => ?_)
  · obtain ⟨_, _, _, _, rfl, _⟩ := h
    rfl
  · obtain ⟨cell, count, h, v, rfl, c0, c1, h0, h1, v0, v1, q⟩ := h
    have hu : (A.deeper (envOfC (Str.ofString "_law_some") (defScope s_law_some) s.heap.objs.size T.f_law_some cdv)).units + 1 < cLine := by
      have := hr.units
      omega
    refine ⟨_, (pss_cons (ps_set (i := 4) sc_law_some.nd rfl (.inl rfl) (pe_callB call_abs (by rfl) T.z_abs (by decide +kernel) (pa_cons (pe_callTy call_intI (by rfl) T.z_int (by decide +kernel) (pa_cons (pv 0) pa_nil)) pa_nil)))
      (pss_cons (ps_set (i := 5) sc_law_some.nd rfl (.inl rfl) pe_dnewT)
      (pss_cons (ps_for PassesOwn.never rfl (pi_list (pe_call (ok_law_row T) (hr.mono (by decide)) (by rfl) T.g_law_row T.F_law_row.kp T.b_law_row .nil pass0 (pa_cons (pv 0) (pa_cons (pv 1) (pa_cons (pe_op op_mul (pv 2) (pv 3)) pa_nil))))) (pg_name (i := 6) sc_law_some.nd rfl (.inl rfl))
      (pss_one (ps_dput hu (pv 5) (pe_tup (pa_cons (pe_op op_fdiv (pv 6) (pv 3)) (pa_cons (pe_op op_mod (pv 6) (pv 3)) pa_nil))) pe_bl rfl)))
      (pss_one (ps_ret (pe_callB cr_sortedC (by rfl) T.z_sorted (by decide +kernel) (pa_cons (pe_lock (pe_lc (own := [("place", 7)]) (g := gName 7) (tt := tYes) rfl sc_law_some.nd (pi_keys (pv 5)) (blkOk_by (own := [("place", 7)]) (N := N_law_some) (sc := defScope s_law_some) (by decide +kernel)) (fun _ _ _ _ _ => pg_name (i := 7) sc_law_some.nd rfl (Or.inl rfl)) (fun _ _ _ _ _ => pts_nil) (fun _ _ _ _ _ => (pv 7)))) pa_nil))))))), ?_⟩
    have b0 : 0 < h * v := Int.mul_pos h0 v0
    have b1 : h * v < 1000000000 := by
      have := Int.mul_le_mul h1 v1 (by omega) (by decide)
      omega
    refine ⟨_, rfl, _, rfl, _, rfl, fun d nd => ?_⟩
    k_invariant "new" (nd, H1, e1, g1)
    refine ⟨_, rfl, _, rfl, _, rfl, _, rfl, _, _, rfl, rfl, (by k_offL), _, _, _, rfl, c0, by omega, b0, b1, fun H2 p2 xs n2 e2 g2 l2 m2 => ?_⟩
    have nd2 : d ≠ p2 := neS g1 (fun _ _ z => z) n2
    refine ⟨p2, rfl, ⟨_, lst_of g2⟩, for_list (K := K) (a := p2) (xs := xs.map V.int) (fun i σ H' => Same H H' ∧ H' p2 = some (.lst (xs.map V.int)) ∧ (∃ (x y z : Option V), σ = [some (.int cell), some (.int count), some (.int h), some (.int v), x, some (.ref d), y, z]) ∧ ∃ kvs ps, H' d = some (.dT kvs) ∧ KeysP kvs ps ∧ ps.length ≤ i ∧ ∀ x ∈ ps, 0 ≤ x.1 ∧ x.1 < h ∧ 0 ≤ x.2 ∧ x.2 < v)
      ⟨e1.trans e2, g2, ⟨_, _, _, rfl⟩, [], [], e2 _ _ g1, ⟨rfl, List.nodup_nil⟩, Nat.le_refl _, fun _ m => (by cases m)⟩ (fun i σ H' _ p => lst_of p.2.1) ?_ ?_⟩
    · rintro i z σ H' hi ⟨sm, gp, ⟨x, y, z1, rfl⟩, kvs, ps, gd, hK, lp, bd⟩
      obtain ⟨n, rfl, _, mn⟩ := item_ints hi
      have bn := m2 n mn
      have li := (List.getElem?_eq_some_iff.mp hi).1
      rw [List.length_map] at li
      refine ⟨_, rfl, _, rfl, _, rfl, _, _, rfl, rfl, ⟨v0, by omega⟩, _, rfl, _, rfl, _, _, rfl, rfl, v0, (by k_clsL), fun t nt => ?_⟩
      have ntd : t ≠ d := fun e => by
        rw [e, gd] at nt
        cases nt
      have ntp : p2 ≠ d := fun e => by
        rw [e, gd] at gp
        cases gp
      obtain ⟨qs, hQ, lq, mq⟩ := hK.put (n / v, n % v) (.bl true)
      refine ⟨d, _, rfl, DPut.t (k := keyP (n / v, n % v)) (newS nt _ _ gd) upd_same (by rw [hK.len, sizeLine_eq]; omega), mutS (sm.trans (newS nt)) nd, ?_, ⟨_, _, _, rfl⟩, _, qs, upd_same, hQ, by omega, fun x m => ?_⟩
      · rw [upd_ne ntp]
        exact newS nt _ _ gp
      · rcases (mq x).mp m with m | e
        · exact bd x m
        · rw [e]
          exact ⟨Int.ediv_nonneg bn.1 (by omega), Int.ediv_lt_of_lt_mul v0 bn.2, Int.emod_nonneg _ (by omega), Int.emod_lt_of_pos _ v0⟩
    · rintro σ H' ⟨sm, gp, ⟨x, y, z1, rfl⟩, kvs, ps, gd, hK, lp, bd⟩
      rw [List.length_map] at lp
      refine ⟨d, _, gd, trivial, fun od => ⟨_, rfl, d, od, rfl, .inr ⟨kvs, upd_same, fun D nD => lc_keysP hK upd_same nD (by rw [sizeLine_eq]; omega) ?_ fun H3 e3 g3 => ?_⟩⟩⟩
      · intro t x H' Po Pn ht hq
        exact ⟨rfl, tyesT ⟨_, rfl, hq⟩⟩
      · have gd3 : H3 d = some (.frz od (.dT kvs)) := e3 _ _ upd_same
        have s3 : Same H (upd H3 d (.dT kvs)) := mutS ((mutS sm nd).trans e3) nd
        have neD : D ≠ d := fun e => by
          rw [e, upd_same] at nD
          cases nD
        refine ⟨gd3, D, ps, rfl, g3.mut neD (fun xs e => ?_), hK.2, fun p H4 qs e4 n4 h4 c4 l4 => q H4 p qs (backS s3 n4) (s3.trans e4) h4 c4.1 (by omega) fun x m => bd x ((c4.2 x).mp m)⟩
        rw [gd3] at e
        cases e
/-- all but three addresses stay -/
def Sb3 (W D al : Addr) (H H' : Hp) : Prop := ∀ b o, b ≠ W → b ≠ D → b ≠ al → H b = some o → H' b = some o
theorem Sb3.trans {W D al : Addr} {H H1 H2 : Hp} (h : Sb3 W D al H H1) (k : Sb3 W D al H1 H2) : Sb3 W D al H H2 := fun b o n1 n2 n3 e => k b o n1 n2 n3 (h b o n1 n2 n3 e)
theorem Sb3.ofS {W D al : Addr} {H H' : Hp} (e : Same H H') : Sb3 W D al H H' := fun b o _ _ _ h => e b o h
def Near (y : Pr) : Prop := y.1.natAbs < 3000000 ∧ y.2.natAbs < 3000000
def sp_law_edit (C : Addr) : Sp := fun vs H Q _ => ∃ (W ru S D al : Addr) (gen : Int) (ks : List Pr) (g : Pr → Nat) (aks : List Pr) (Al : Pr → Bool) (x : Int), vs = [.ref W, .ref al, .int x] ∧ 0 ≤ x ∧ WAt C H W gen ru S D ∧ LivIs H D ks g ∧ AlIs H al aks Al ∧
  W ≠ D ∧ al ≠ D ∧ al ≠ W ∧ (∀ y, inB g y = Al y) ∧ ks.length < 10000 ∧ aks.length < 10000 ∧
  ∀ (H' : Hp) (S' : Addr) (ks' : List Pr) (g' : Pr → Nat) (aks' : List Pr) (Al' : Pr → Bool), Sb3 W D al H H' → WAt C H' W gen ru S' D → LivIs H' D ks' g' → AlIs H' al aks' Al' → (∀ y, inB g' y = Al' y) → ks'.length ≤ ks.length + 20 → aks'.length ≤ aks.length + 20 →
    (∀ y ∈ aks', y ∈ aks ∨ Near y) → Q (.bl true) H'
theorem ok_law_edit (T : Txt K mg) : FnOk P w K mg base CX0 7 T.f_law_edit T.d_law_edit ["world", "alive", "x"] (sp_law_edit T.C_World) := by
  refine T.F_law_edit.ok sc_law_edit (fun vs H Q E h => ?_) (fun cdv A outer s H vs Q E hr h => ?_)
  · obtain ⟨_, _, _, _, _, _, _, _, _, _, _, rfl, _⟩ := h
    rfl
  · obtain ⟨W, ru, S, D, al, gen, ks, g, aks, Al, x, rfl, x0, hW, hL, hA, nWD, naD, naW, link, fk, fa, q⟩ := h
    have hu : (A.deeper (envOfC (Str.ofString "_law_edit") (defScope s_law_edit) s.heap.objs.size T.f_law_edit cdv)).units + 1 < cLine := by
      have := hr.units
      omega
    refine ⟨_, (pss_cons (ps_set (i := 3) sc_law_edit.nd rfl (.inl rfl) (pe_op op_mod (pv 2) pe_int))
      (pss_cons (ps_set (i := 4) sc_law_edit.nd rfl (.inl rfl) (pe_ix ix_list (pe_lst (pa_cons pe_int (pa_cons pe_int (pa_cons pe_int (pa_cons pe_int pa_nil))))) (pe_op op_mod (pe_op op_fdiv (pv 2) pe_int) pe_int) (fun _ _ => rfl)))
      (pss_cons (ps_set (i := 5) sc_law_edit.nd rfl (.inl rfl) (pe_op op_sub (pe_op op_mod (pe_op op_fdiv (pv 2) pe_int) (pe_op op_mul pe_int (pv 4))) (pv 4)))
      (pss_cons (ps_set (i := 6) sc_law_edit.nd rfl (.inl rfl) (pe_op op_sub (pe_op op_mod (pe_op op_fdiv (pv 2) pe_int) (pe_op op_mul pe_int (pv 4))) (pv 4)))
      (pss_cons (ps_if (pt_cmpR op_lt (pv 3) pe_int (nomark _))
      (pss_cons (ps_expr (pe_meth (pv 0) T.cl_World T.m_World_put (ok_World_put T) (hr.mono (by decide)) T.b_World_put .nil pass0 (pa_cons (pv 5) (pa_cons (pv 6) (pa_cons (pe_cmpR op_eq (pv 3) pe_int (nomark _)) pa_nil)))))
      (pss_cons (ps_dput hu (pv 1) (pe_tup (pa_cons (pv 5) (pa_cons (pv 6) pa_nil))) (pe_cmpR op_eq (pv 3) pe_int (nomark _)) rfl)
      (pss_one (ps_ret pe_bl))))
      pss_nil)
      (pss_cons (ps_if (pt_cmpR op_eq (pv 3) pe_int (nomark _))
      (pss_cons (ps_expr (pe_meth0 (pv 0) T.cl_World T.m_World_tidy (ok_World_tidy T) (hr.mono (by decide)) T.b_World_tidy .nil pass0))
      (pss_one (ps_ret pe_bl)))
      pss_nil)
      (pss_cons (ps_set (i := 7) sc_law_edit.nd rfl (.inl rfl) (pe_ix ix_list (pe_lst (pa_cons pe_str (pa_cons pe_str (pa_cons pe_str pa_nil)))) (pe_op op_sub (pv 3) pe_int) (fun _ _ => rfl)))
      (pss_cons (ps_setLc (i := 8) (own := [("i", 11), ("j", 12)]) (tt := tYes) rfl sc_law_edit.nd rfl rfl (sw_true rfl rfl rfl (by decide +kernel)) (pi_list (pe_call (ok_law_some T) (hr.mono (by decide)) (by rfl) T.g_law_some T.F_law_some.kp T.b_law_some .nil pass0 (pa_cons (pe_op op_fdiv (pv 2) pe_int) (pa_cons (pe_op op_mod (pe_op op_fdiv (pv 2) pe_int) pe_int) (pa_cons pe_int (pa_cons pe_int pa_nil)))))) (blkOk_by (own := [("i", 11), ("j", 12)]) (N := N_law_edit) (sc := defScope s_law_edit) (by decide +kernel)) (fun _ _ _ _ _ => (pg_tupK (K := K) (n := 2) rfl rfl (pgs_cons (pg_name (i := 11) sc_law_edit.nd rfl (.inl rfl)) (pgs_cons (pg_name (i := 12) sc_law_edit.nd rfl (.inl rfl)) pgs_nil)))) (fun _ _ _ _ _ => pts_nil) (fun _ _ _ _ _ => (pe_tup (pa_cons (pe_op op_sub (pv 11) pe_int) (pa_cons (pe_op op_sub (pv 12) pe_int) pa_nil)))))
      (pss_cons (ps_set (i := 9) sc_law_edit.nd rfl (.inl rfl) (pe_revL (pe_op op_cat (pv 8) (pe_slice sl_list (pv 8) po_none (po_some pe_int)))))
      (pss_cons (ps_set (i := 10) sc_law_edit.nd rfl (.inl rfl) (pe_callTy call_listL (by rfl) T.z_list (by decide +kernel) (pa_cons (pv 9) pa_nil)))
      (pss_cons (ps_expr (pe_meth (pv 0) T.cl_World T.m_World_paste (ok_World_paste T) (hr.mono (by decide)) T.b_World_paste .nil pass0 (pa_cons (pv 10) (pa_cons (pv 5) (pa_cons (pv 6) (pa_cons (pv 7) pa_nil))))))
      (pss_cons (ps_for PassesOwn.never rfl (pi_list (pv 8)) (pg_tupK (K := K) (n := 2) rfl rfl (pgs_cons (pg_name (i := 11) sc_law_edit.nd rfl (.inl rfl)) (pgs_cons (pg_name (i := 12) sc_law_edit.nd rfl (.inl rfl)) pgs_nil)))
      (pss_cons (ps_set (i := 13) sc_law_edit.nd rfl (.inl rfl) (pe_dget2 hu (pv 1) (pe_tup (pa_cons (pe_op op_add (pv 5) (pv 11)) (pa_cons (pe_op op_add (pv 6) (pv 12)) pa_nil))) pe_bl ⟨rfl, rfl, rfl, rfl⟩))
      (pss_one (ps_dput hu (pv 1) (pe_tup (pa_cons (pe_op op_add (pv 5) (pv 11)) (pa_cons (pe_op op_add (pv 6) (pv 12)) pa_nil))) (pe_or (pe_cmpR op_eq (pv 7) pe_str (nomark _)) (pe_one (pe_and (pe_cmpR op_eq (pv 7) pe_str (nomark _)) (pe_one (pe_not (pv 13)))))) rfl))))
      (pss_one (ps_ret (pe_cmpR (op_eqD hr.units) (pv 10) (pv 9) (nomark _)))))))))))))))), ?_⟩
    k_upd
    refine ⟨_, rfl, _, _, rfl, rfl, (by k_offL), ?_⟩
    k_upd
    refine ⟨(by k_clsL), fun p1 n1 => ?_⟩
    k_invariant "new" (n1, H1, e1, g1)
    have pick : ∃ sp : Int, atI [V.int 4, V.int 9, V.int 40, V.int 1000000] (x / 6 % 4) = some (.int sp) ∧ 4 ≤ sp ∧ sp ≤ 1000000 := by
      have z0 := Int.emod_nonneg (x / 6) (show (4 : Int) ≠ 0 by decide)
      have z1 := Int.emod_lt_of_pos (x / 6) (show (0 : Int) < 4 by decide)
      generalize x / 6 % 4 = j at z0 z1
      have : j = 0 ∨ j = 1 ∨ j = 2 ∨ j = 3 := by omega
      rcases this with rfl | rfl | rfl | rfl
      · exact ⟨_, rfl, by decide, by decide⟩
      · exact ⟨_, rfl, by decide, by decide⟩
      · exact ⟨_, rfl, by decide, by decide⟩
      · exact ⟨_, rfl, by decide, by decide⟩
    obtain ⟨sp, hsp, sp0, sp1⟩ := pick
    refine ⟨_, rfl, _, _, rfl, rfl, ⟨by decide, by decide⟩, _, _, rfl, rfl, (by k_offL), _, _, _, _, rfl, rfl, lst_of g1, hsp, ?_⟩
    k_upd
    refine ⟨_, rfl, _, _, rfl, rfl, ⟨by decide, by decide⟩, _, rfl, _, _, rfl, rfl, .inl ⟨by decide, by decide⟩, _, _, rfl, rfl, (by show (0 : Int) < _; omega), _, rfl, _, _, rfl, rfl, ?_⟩
    k_upd
    refine ⟨_, rfl, _, _, rfl, rfl, ⟨by decide, by decide⟩, _, rfl, _, _, rfl, rfl, .inl ⟨by decide, by decide⟩, _, _, rfl, rfl, (by show (0 : Int) < _; omega), _, rfl, _, _, rfl, rfl, ?_⟩
    k_upd
    have r0 : -1000000 ≤ x / 24 % (2 * sp) - sp ∧ x / 24 % (2 * sp) - sp < 1000000 := by
      have a := Int.emod_nonneg (x / 24) (show (2 * sp) ≠ 0 by omega)
      have b := Int.emod_lt_of_pos (x / 24) (show (0 : Int) < 2 * sp by omega)
      omega
    have c0 : -1000000 ≤ x / 2400 % (2 * sp) - sp ∧ x / 2400 % (2 * sp) - sp < 1000000 := by
      have a := Int.emod_nonneg (x / 2400) (show (2 * sp) ≠ 0 by omega)
      have b := Int.emod_lt_of_pos (x / 2400) (show (0 : Int) < 2 * sp by omega)
      omega
    generalize x / 24 % (2 * sp) - sp = r at r0
    generalize x / 2400 % (2 * sp) - sp = c at c0
    have k0 := Int.emod_nonneg x (show (6 : Int) ≠ 0 by decide)
    have k1 := Int.emod_lt_of_pos x (show (0 : Int) < 6 by decide)
    have hW1 := hW.up e1
    have hL1 := hL.up e1
    have hA1 := hA.up e1
    obtain ⟨dx, ho1⟩ := id hW1
    refine ⟨_, rfl, _, _, rfl, rfl, _, rfl, ite2 (fun a1 => ?_) (fun a1 => ?_)⟩
    · -- put
      refine ⟨_, rfl, W, _, _, rfl, ho1, rfl, _, rfl, _, rfl, _, rfl, rfl, ?_⟩
      refine ⟨W, ru, S, D, gen, ks, g, r, c, _, rfl, hW1, hL1, nWD, by omega, fun H2 ks' g' sb hL2 lk hg => ?_⟩
      have hA2 := hA1.sb sb naD
      refine ⟨_, rfl, rfl, _, rfl, _, rfl, _, rfl, (by k_clsL), fun t nt => ?_⟩
      k_invariant "new" (nt, H3, e3, g3)
      obtain ⟨H4, dp, pa⟩ := (hA2.up e3).dct.dput (x := (r, c)) (by rw [sizeLine_eq]; omega) g3 (.bl (decide (V.int (x % 6) = V.int 0)))
      refine ⟨al, H4, rfl, dp, ?_⟩
      have hA4 := (hA2.up e3).put pa
      have sb4 : Sb al H2 H4 := fun b o n h => by
        rw [pa.2 b n]
        exact e3 _ _ h
      refine q H4 S ks' g' _ _ (fun b o a1 a2 a3 h => sb4 _ _ a3 (sb _ _ a2 (e1 _ _ h))) ((hW1.sb sb nWD).sb sb4 naW.symm) (hL2.sb sb4 naD.symm) hA4 (fun y => ?_) (by omega) ?_ ?_
      · rw [hg, link]
      · have := addK_len aks (r, c)
        omega
      · intro y m
        rcases addK_mem.mp m with m | m
        · exact .inl m
        · refine .inr ?_
          rw [m]
          exact ⟨by show r.natAbs < _; omega, by show c.natAbs < _; omega⟩
    refine ⟨_, rfl, rfl, _, rfl, ite2 (fun a2 => ?_) (fun a2 => ?_)⟩
    · -- tidy
      refine ⟨_, rfl, W, _, _, rfl, ho1, rfl, W, ru, S, D, gen, rfl, hW1, fun H2 S' sb hW2 => ?_⟩
      exact q H2 S' ks g aks Al (fun b o a1 a2 a3 h => sb _ _ a1 (e1 _ _ h)) hW2 (hL1.sb sb nWD.symm) (hA1.sb sb naW) link (by omega) (by omega) fun y m => .inl m
    -- paste
    have k6 : x % 6 = 3 ∨ x % 6 = 4 ∨ x % 6 = 5 := by
      have b1 : ¬ x % 6 < 2 := fun z => a1 (decide_eq_true z)
      have b2 : ¬ x % 6 = 2 := fun z => a2 (decide_eq_true (congrArg V.int z))
      omega
    have pick2 : ∃ m : Nat, m < 3 ∧ atI [V.str (Str.ofString "add"), V.str (Str.ofString "clear"), V.str (Str.ofString "flip")] (x % 6 - 3) = some (.str (modeS m)) := by
      rcases k6 with e | e | e <;> rw [e]
      · exact ⟨0, by decide, rfl⟩
      · exact ⟨1, by decide, rfl⟩
      · exact ⟨2, by decide, rfl⟩
    obtain ⟨m, m3, hmode⟩ := pick2
    refine ⟨(by k_clsL), fun p2 n2 => ?_⟩
    k_invariant "new" (n2, H2, e2, g2)
    refine ⟨_, rfl, _, _, rfl, rfl, _, _, _, _, rfl, rfl, lst_of g2, hmode, ?_⟩
    k_upd
    have q1 := Int.emod_nonneg (x / 24) (show (12 : Int) ≠ 0 by decide)
    have q2 := Int.emod_lt_of_pos (x / 24) (show (0 : Int) < 12 by decide)
    refine ⟨_, rfl, _, _, rfl, rfl, ⟨by decide, by decide⟩, _, rfl, _, _, rfl, rfl, ⟨by decide, by decide⟩, _, _, rfl, rfl, (by k_offL), _, _, _, _, rfl, q1, by omega, by decide, by decide, by decide, by decide, fun H3 p3 ps n3 e3 h3 pw3 l3 b3 => ?_⟩
    obtain ⟨ts3, hl3, ht3, ets3⟩ := id h3
    have lps : ps.length ≤ 11 := by omega
    refine ⟨p3, rfl, ⟨_, lst_of hl3⟩, fun D1 nD1 => lc_cells (fun y => (y.1 - 2, y.2 - 3)) h3 nD1 (by rw [sizeLine_eq]; omega) (fun t y H' Po Pn _ ht hq => ⟨t, _, rfl, tup_of ht, rfl, _, _, rfl, _, _, rfl, rfl, rfl, tyesT ⟨_, rfl, _, _, rfl, rfl, _, rfl, _, _, rfl, rfl, (by k_clsL), fun t2 n2 => hq t2 n2⟩⟩) fun H4 e4 h4 => ?_⟩
    obtain ⟨cs, ecs⟩ : ∃ cs, cs = ps.map fun y => (y.1 - 2, y.2 - 3) := ⟨_, rfl⟩
    rw [← ecs] at h4
    have lcs : cs.length ≤ 11 := by rw [ecs, List.length_map]; exact lps
    have bcs : ∀ u ∈ cs, u.1.natAbs ≤ 3 ∧ u.2.natAbs ≤ 3 := fun u m => by
      rw [ecs] at m
      obtain ⟨y, my, rfl⟩ := List.mem_map.mp m
      have := b3 y my
      show (y.1 - 2).natAbs ≤ 3 ∧ (y.2 - 3).natAbs ≤ 3
      omega
    have ndc : (cs.map fun u => (r + u.1, c + u.2)).Nodup := by
      rw [ecs, List.map_map]
      refine List.pairwise_map.mpr (pw3.imp fun {a b} hab e => ?_)
      have hab := ltP_iff.mp hab
      have z1 : r + (a.1 - 2) = r + (b.1 - 2) := congrArg Prod.fst e
      have z2 : c + (a.2 - 3) = c + (b.2 - 3) := congrArg Prod.snd e
      omega
    obtain ⟨ts, hl, ht, ets⟩ := id h4
    have lts : ts.length = cs.length := by rw [← ets, List.length_map]
    k_upd
    refine ⟨_, rfl, _, rfl, _, rfl, _, _, rfl, lst_of hl, fun q5 nq5 => ?_⟩
    have ecut : cutV (ts.map fun t => V.ref t.1) none (some 3) = (ts.take 3).map fun t => V.ref t.1 := by
      unfold cutV
      rw [show HT.sIx (ts.map fun t => V.ref t.1).length (ts.map fun t => V.ref t.1).length (some 3) = min 3 (ts.map fun t => V.ref t.1).length from rfl]
      show ((ts.map fun t => V.ref t.1).drop 0).take (min 3 (ts.map fun t => V.ref t.1).length - 0) = _
      rw [List.drop_zero, Nat.sub_zero, List.map_take]
      by_cases c3 : 3 ≤ (ts.map fun t => V.ref t.1).length
      · rw [Nat.min_eq_left c3]
      · rw [Nat.min_eq_right (by omega), List.take_of_length_le (Nat.le_refl _), List.take_of_length_le (by omega)]
    rw [ecut]
    k_invariant "new" (nq5, H5, e5, g5)
    refine ⟨_, _, _, _, rfl, rfl, e5 _ _ hl, g5, by rw [List.length_map, List.length_map, List.length_take, sizeLine_eq]; omega, fun q6 nq6 => ?_⟩
    k_invariant "new" (nq6, H6, e6, g6)
    refine ⟨_, _, rfl, lst_of g6, fun q7 nq7 => ?_⟩
    k_invariant "new" (nq7, H7, e7, g7)
    k_upd
    refine ⟨_, rfl, _, _, rfl, lst_of g7, fun q8 nq8 => ?_⟩
    k_invariant "new" (nq8, H8, e8, g8)
    k_upd
    obtain ⟨us, eus⟩ : ∃ us, us = (ts ++ ts.take 3).reverse := ⟨_, rfl⟩
    have evs : ((ts.map fun t => V.ref t.1) ++ (ts.take 3).map fun t => V.ref t.1).reverse = us.map fun t => V.ref t.1 := by
      rw [eus, List.map_reverse, List.map_append]
    rw [evs] at g7 g8
    have s78 : Same H4 H8 := e5.trans (e6.trans (e7.trans e8))
    have s48 : Same H1 H8 := e2.trans (e3.trans (e4.trans s78))
    have memu : ∀ t, t ∈ us → t ∈ ts := fun t m => by
      rw [eus, List.mem_reverse, List.mem_append] at m
      exact m.elim id fun m => List.mem_of_mem_take m
    have hC8 : Cells H8 q8 (us.map (·.2)) := ⟨us, g8, fun t m => s78 _ _ (ht t (memu t m)), rfl⟩
    have hC7 : Cells H8 q7 (us.map (·.2)) := ⟨us, e8 _ _ g7, fun t m => s78 _ _ (ht t (memu t m)), rfl⟩
    have lus : us.length ≤ 14 := by
      rw [eus, List.length_reverse, List.length_append, List.length_take]
      omega
    have memc : ∀ y, y ∈ us.map (·.2) ↔ y ∈ cs := fun y => by
      rw [← ets]
      constructor
      · intro m
        obtain ⟨t, mt, e⟩ := List.mem_map.mp m
        exact List.mem_map.mpr ⟨t, memu t mt, e⟩
      · intro m
        obtain ⟨t, mt, e⟩ := List.mem_map.mp m
        exact List.mem_map.mpr ⟨t, by rw [eus, List.mem_reverse, List.mem_append]; exact .inl mt, e⟩
    have hW8 := hW1.up s48
    have hL8 := hL1.up s48
    have hA8 := hA1.up s48
    obtain ⟨dx8, ho8⟩ := id hW8
    refine ⟨_, rfl, W, _, _, rfl, ho8, rfl, _, rfl, _, rfl, _, rfl, _, rfl, ?_⟩
    refine ⟨W, ru, S, D, q8, gen, ks, g, us.map (·.2), r, c, m, m3, rfl, hW8, hL8, nWD, by omega, hC8, by rw [List.length_map]; omega, fun H9 ks' g' sb9 hL9 lk hg => ?_⟩
    obtain ⟨kv9, hD8, _⟩ := id hL8.dct
    have hCs := Cells.sb (h4.up s78) hD8 sb9
    have hC89 := Cells.sb hC8 hD8 sb9
    have hC79 := Cells.sb hC7 hD8 sb9
    have hA9 := hA8.sb sb9 naD
    obtain ⟨ws, hws, hwt, ews⟩ := id hCs
    have lws : ws.length = cs.length := by rw [← ews, List.length_map]
    obtain ⟨akv, hal9, _⟩ := id hA9.dct
    k_upd
    refine ⟨_, rfl, D1, rfl, ⟨_, lst_of hws⟩, ?_⟩
    have nDa : D1 ≠ al := fun e => by rw [e, hal9] at hws; cases hws
    refine for_list (K := K) (a := D1) (xs := ws.map fun t => V.ref t.1) (fun i σ H' => ∃ (aks' : List Pr) (A' : Pr → Bool) (x11 x12 x13 : Option V), σ = [some (.ref W), some (.ref al), some (.int x), some (.int (x % 6)), some (.int sp), some (.int r), some (.int c), some (.str (modeS m)), some (.ref D1), some (.ref q7), some (.ref q8), x11, x12, x13] ∧
        Sb al H9 H' ∧ AlIs H' al aks' A' ∧ aks'.length ≤ aks.length + i ∧ (∀ y, A' y = if y ∈ (cs.take i).map (fun u => (r + u.1, c + u.2)) then chgB m (Al y) true else Al y) ∧ ∀ y ∈ aks', y ∈ aks ∨ Near y)
      ⟨aks, Al, _, _, _, rfl, Sb.of (Same.refl _), hA9, Nat.le_refl _, fun y => by simp, fun y my => .inl my⟩ (fun i σ H' _ p => by
        obtain ⟨_, _, _, _, _, _, sb, _⟩ := p
        exact lst_of (sb _ _ nDa hws)) ?_ ?_
    · rintro i v σ H6' hi ⟨aks', A', x11, x12, x13, rfl, sb6, hA6, lk6, hA', nr⟩
      obtain ⟨t, mt, rfl, hz'⟩ := item_cells (H := H6') hi rfl
      rw [ews] at hz'
      obtain ⟨z, ez⟩ : ∃ z, z = t.2 := ⟨_, rfl⟩
      rw [← ez] at hz'
      have hz := hz'
      have li : i < cs.length := (List.getElem?_eq_some_iff.mp hz).1
      have htt := hwt t mt
      have hq : H6' t.1 = some (.tup [.int z.1, .int z.2]) := by rw [ez]; exact sb6 _ _ (fun e => by rw [e, hal9] at htt; cases htt) htt
      refine ⟨t.1, _, rfl, tup_of hq, rfl, _, _, rfl, _, _, rfl, rfl, ?_⟩
      k_upd
      refine ⟨_, rfl, al, rfl, hA6.dct.isD, _, rfl, _, rfl, _, _, rfl, rfl, _, rfl, _, rfl, _, _, rfl, rfl, (by k_clsL), fun t2 n2' => ?_⟩
      k_invariant "new" (n2', H7', e7, g7')
      have hA7 := hA6.up e7
      refine ⟨_, hA7.dct.dget (x := (r + z.1, c + z.2)) g7', ?_⟩
      rw [hA7.getD]
      have old : A' (r + z.1, c + z.2) = Al (r + z.1, c + z.2) := by
        rw [hA', if_neg]
        have hzm : (cs.map fun u => (r + u.1, c + u.2))[i]? = some (r + z.1, c + z.2) := by rw [List.getElem?_map, hz]; rfl
        have := nodup_next ndc hzm
        rwa [← List.map_take] at this
      rw [old]
      k_upd
      have ne1 : ¬ (V.str (modeS 1) = V.str (Str.ofString "add")) := by decide +kernel
      have ne2 : ¬ (V.str (modeS 2) = V.str (Str.ofString "add")) := by decide +kernel
      have ne3 : ¬ (V.str (modeS 1) = V.str (Str.ofString "flip")) := by decide +kernel
      have mm : m = 0 ∨ m = 1 ∨ m = 2 := by omega
      rcases mm with em | em | em
      · subst em
        · refine ⟨_, rfl, rfl, _, rfl, ?_⟩
          rw [decide_eq_true (show V.str (modeS 0) = V.str (Str.ofString "add") from rfl)]
          refine iteT ?_
          refine ⟨_, rfl, _, rfl, _, rfl, _, _, rfl, rfl, _, rfl, _, rfl, _, _, rfl, rfl, (by k_clsL), fun t3 n3 => ?_⟩
          k_invariant "new" (n3, H8, e8, g8)
          obtain ⟨H9, dp, pa⟩ := (hA7.up e8).dct.dput (x := (r + z.1, c + z.2)) (by rw [sizeLine_eq]; omega) g8 (.bl true)
          refine ⟨al, H9, rfl, dp, ?_⟩
          refine ⟨_, _, _, _, _, rfl, fun b o n h => ?_, (hA7.up e8).put pa, ?_, fun y => ?_, fun y my => ?_⟩
          · rw [pa.2 b n]
            exact e8 _ _ (e7 _ _ (sb6 _ _ n h))
          · have := addK_len aks' (r + z.1, c + z.2)
            omega
          · by_cases cy : y = (r + z.1, c + z.2)
            · rw [if_pos cy, if_pos (by rw [cy, take_next hz, List.map_append]; exact List.mem_append.mpr (.inr (List.mem_singleton.mpr rfl))), cy]
              show true = (Al (r + z.1, c + z.2) || true)
              rw [Bool.or_true]
            · rw [if_neg cy, hA' y, take_next hz, List.map_append, List.map_cons, List.map_nil]
              by_cases cm : y ∈ (cs.take i).map fun u => (r + u.1, c + u.2)
              · rw [if_pos cm, if_pos (List.mem_append.mpr (.inl cm))]
              · rw [if_neg cm, if_neg fun m => (List.mem_append.mp m).elim cm fun m => cy (List.mem_singleton.mp m)]
          · rcases addK_mem.mp my with m | m
            · exact nr y m
            · refine .inr ?_
              rw [m]
              have := bcs z (List.mem_of_getElem? hz)
              exact ⟨by show (r + z.1).natAbs < _; omega, by show (c + z.2).natAbs < _; omega⟩
      · subst em
        · refine ⟨_, rfl, rfl, _, rfl, ?_⟩
          rw [decide_eq_false ne1]
          refine iteF ?_
          refine ⟨_, rfl, rfl, _, rfl, ?_⟩
          rw [decide_eq_false ne3]
          refine iteF ?_
          refine ⟨_, rfl, _, rfl, _, rfl, _, _, rfl, rfl, _, rfl, _, rfl, _, _, rfl, rfl, (by k_clsL), fun t3 n3 => ?_⟩
          k_invariant "new" (n3, H8, e8, g8)
          obtain ⟨H9, dp, pa⟩ := (hA7.up e8).dct.dput (x := (r + z.1, c + z.2)) (by rw [sizeLine_eq]; omega) g8 (.bl false)
          refine ⟨al, H9, rfl, dp, ?_⟩
          refine ⟨_, _, _, _, _, rfl, fun b o n h => ?_, (hA7.up e8).put pa, ?_, fun y => ?_, fun y my => ?_⟩
          · rw [pa.2 b n]
            exact e8 _ _ (e7 _ _ (sb6 _ _ n h))
          · have := addK_len aks' (r + z.1, c + z.2)
            omega
          · by_cases cy : y = (r + z.1, c + z.2)
            · rw [if_pos cy, if_pos (by rw [cy, take_next hz, List.map_append]; exact List.mem_append.mpr (.inr (List.mem_singleton.mpr rfl))), cy]
              show false = (Al (r + z.1, c + z.2) && !true)
              simp
            · rw [if_neg cy, hA' y, take_next hz, List.map_append, List.map_cons, List.map_nil]
              by_cases cm : y ∈ (cs.take i).map fun u => (r + u.1, c + u.2)
              · rw [if_pos cm, if_pos (List.mem_append.mpr (.inl cm))]
              · rw [if_neg cm, if_neg fun m => (List.mem_append.mp m).elim cm fun m => cy (List.mem_singleton.mp m)]
          · rcases addK_mem.mp my with m | m
            · exact nr y m
            · refine .inr ?_
              rw [m]
              have := bcs z (List.mem_of_getElem? hz)
              exact ⟨by show (r + z.1).natAbs < _; omega, by show (c + z.2).natAbs < _; omega⟩
      · subst em
        · refine ⟨_, rfl, rfl, _, rfl, ?_⟩
          rw [decide_eq_false ne2]
          refine iteF ?_
          refine ⟨_, rfl, rfl, _, rfl, ?_⟩
          rw [decide_eq_true (show V.str (modeS 2) = V.str (Str.ofString "flip") from rfl)]
          refine iteT ?_
          refine ⟨_, rfl, _, rfl, ?_⟩
          refine ⟨_, rfl, _, rfl, _, rfl, _, _, rfl, rfl, _, rfl, _, rfl, _, _, rfl, rfl, (by k_clsL), fun t3 n3 => ?_⟩
          k_invariant "new" (n3, H8, e8, g8)
          obtain ⟨H9, dp, pa⟩ := (hA7.up e8).dct.dput (x := (r + z.1, c + z.2)) (by rw [sizeLine_eq]; omega) g8 (.bl (!Al (r + z.1, c + z.2)))
          refine ⟨al, H9, rfl, dp, ?_⟩
          refine ⟨_, _, _, _, _, rfl, fun b o n h => ?_, (hA7.up e8).put pa, ?_, fun y => ?_, fun y my => ?_⟩
          · rw [pa.2 b n]
            exact e8 _ _ (e7 _ _ (sb6 _ _ n h))
          · have := addK_len aks' (r + z.1, c + z.2)
            omega
          · by_cases cy : y = (r + z.1, c + z.2)
            · rw [if_pos cy, if_pos (by rw [cy, take_next hz, List.map_append]; exact List.mem_append.mpr (.inr (List.mem_singleton.mpr rfl))), cy]
              show (!Al (r + z.1, c + z.2)) = (Al (r + z.1, c + z.2) ^^ true)
              simp
            · rw [if_neg cy, hA' y, take_next hz, List.map_append, List.map_cons, List.map_nil]
              by_cases cm : y ∈ (cs.take i).map fun u => (r + u.1, c + u.2)
              · rw [if_pos cm, if_pos (List.mem_append.mpr (.inl cm))]
              · rw [if_neg cm, if_neg fun m => (List.mem_append.mp m).elim cm fun m => cy (List.mem_singleton.mp m)]
          · rcases addK_mem.mp my with m | m
            · exact nr y m
            · refine .inr ?_
              rw [m]
              have := bcs z (List.mem_of_getElem? hz)
              exact ⟨by show (r + z.1).natAbs < _; omega, by show (c + z.2).natAbs < _; omega⟩
    · rintro σ H6' ⟨aks', A', x11, x12, x13, rfl, sb6, hA6, lk6, hA', nr⟩
      rw [List.length_map, lws] at hA' lk6
      rw [List.take_length] at hA'
      have n7a : q7 ≠ al := fun e => by
        obtain ⟨_, y, _⟩ := hC79
        rw [e, hal9] at y
        cases y
      have n8a : q8 ≠ al := fun e => by
        obtain ⟨_, y, _⟩ := hC89
        rw [e, hal9] at y
        cases y
      refine ⟨_, rfl, _, rfl, _, _, dp_cells (Cells.sb hC89 hal9 sb6), dp_cells (Cells.sb hC79 hal9 sb6), shaped_cells _, shaped_cells _, ?_⟩
      rw [eqv_cells, decide_eq_true rfl]
      refine q H6' S ks' g' aks' A' (fun b o a1 a2 a3 h => sb6 _ _ a3 (sb9 _ _ a2 (s48 _ _ (e1 _ _ h)))) ((hW8.sb sb9 nWD).sb sb6 naW.symm) (hL9.sb sb6 naD.symm) hA6 (fun y => ?_) (by rw [List.length_map] at lk; omega) (by omega) nr
      rw [hg, hA', link]
      have e : (y ∈ (us.map (·.2)).map fun u => (u.1 + r, u.2 + c)) ↔ y ∈ cs.map fun u => (r + u.1, c + u.2) := by
        constructor
        · intro mm
          obtain ⟨u, mu, e⟩ := List.mem_map.mp mm
          refine List.mem_map.mpr ⟨u, (memc u).mp mu, ?_⟩
          rw [← e, Int.add_comm r, Int.add_comm c]
        · intro mm
          obtain ⟨u, mu, e⟩ := List.mem_map.mp mm
          refine List.mem_map.mpr ⟨u, (memc u).mpr mu, ?_⟩
          rw [← e, Int.add_comm r, Int.add_comm c]
      by_cases cy : y ∈ cs.map fun u => (r + u.1, c + u.2)
      · rw [if_pos cy, decide_eq_true (e.mpr cy)]
      · rw [if_neg cy, decide_eq_false (fun z => cy (e.mp z)), chgB_no]
end
end My
namespace My
open PySem PySem.Spec PyProof.Rows L2 Vx
open TL
local macro_rules | `(tactic| k_invariant "new" ($n, $H:ident, $e:ident, $h:ident)) => `(tactic| (generalize hE : upd _ _ _ = $H; obtain ⟨$e:ident, $h:ident⟩ := gen_e hE $n; clear hE))
local macro_rules | `(tactic| k_places) => `(tactic| first
  | assumption
  | exact lst_of (by assumption)
  | exact tup_of (by assumption)
  | (refine getS (by assumption) ?_; k_places)
  | (refine Same.seq (by assumption) ?_; k_places)
  | (refine tupS (by assumption) ?_; k_places)
  | (refine lst_of ?_; k_places)
  | (refine tup_of ?_; k_places))
local macro_rules | `(tactic| k_subL) => `(tactic| first
  | k_places
  | solve_by_elim (maxDepth := 10) [getS, lst_of, tup_of, Same.seq, tupS])
local macro_rules | `(tactic| k_offL) => `(tactic| first
  | (show (0 : Int) < _; first | omega | decide)
  | (refine ⟨?_, ?_⟩ <;> first | omega | decide)
  | exact .inr ⟨by decide, by decide⟩
  | exact .inl ⟨by decide, by decide⟩
  | exact .inl ⟨by omega, by omega⟩
  | omega)
local macro_rules | `(tactic| k_clsL) => `(tactic| exact Nat.le_of_ble_eq_true rfl)
local macro_rules | `(tactic| k_upd) => `(tactic| simp only [L2.start, List.map_cons, List.map_nil, List.length_cons, List.length_nil, List.replicate_succ, List.replicate_zero, List.cons_append, List.nil_append, List.set_cons_zero, List.set_cons_succ])
section
variable {P : Program} {w : World} {K : PySem.W.Frag} {mg : Str → Option Value} {base : Heap}
/-! ### what the law says of an answer -/
def sp_law_integer : Sp := fun vs H Q _ => ∃ i : Int, vs = [.int i] ∧ Q (.bl true) H
theorem ok_law_integer (T : Txt K mg) : FnOk P w K mg base CX0 1 T.f_law_integer T.d_law_integer ["value"] sp_law_integer := by
  refine T.F_law_integer.ok sc_law_integer (fun vs H Q E h => ?_) (fun cdv A outer s H vs Q E hr h => ?_)
  · obtain ⟨_, rfl, _⟩ := h
    rfl
  · obtain ⟨i, rfl, q⟩ := h
    refine ⟨_, (pss_one (ps_ret (pe_and (pe_callB call_isi (by rfl) T.z_isinstance (by decide +kernel) (pa_cons (pv 0) (pa_cons (pe_bltn (v := .ty "int") (by rfl) T.z_int (by decide +kernel) rfl) pa_nil))) (pe_one (pe_not (pe_callB call_isi (by rfl) T.z_isinstance (by decide +kernel) (pa_cons (pv 0) (pa_cons (pe_bltn (v := .ty "bool") (by rfl) T.z_bool (by decide +kernel) rfl) pa_nil)))))))), ?_⟩
    exact ⟨_, rfl, _, _, _, _, _, rfl, .ty _, .base (.int _), rfl, _, rfl, _, rfl, _, _, _, _, _, rfl, .ty _, .base (.int _), rfl, _, rfl, q⟩
def sp_law_cells : Sp := fun vs H Q _ => ∃ (l : Addr) (ps : List Pr), vs = [.ref l] ∧ Cells H l ps ∧ ps.Pairwise ltP ∧ ∀ H', Same H H' → Q (.bl true) H'
theorem ok_law_cells (T : Txt K mg) : FnOk P w K mg base CX0 2 T.f_law_cells T.d_law_cells ["value"] sp_law_cells := by
  refine T.F_law_cells.ok sc_law_cells (fun vs H Q E h => ?_) (fun cdv A outer s H vs Q E hr h => ?_)
  · obtain ⟨_, _, rfl, _⟩ := h
    rfl
  · obtain ⟨l, ps, rfl, hC, pw, q⟩ := h
    refine ⟨_, (pss_cons (ps_if (pt_not (pt_val (pe_callB call_isi (by rfl) T.z_isinstance (by decide +kernel) (pa_cons (pv 0) (pa_cons (pe_bltn (v := .ty "list") (by rfl) T.z_list (by decide +kernel) rfl) pa_nil)))))
      (pss_one (ps_ret pe_bl))
      pss_nil)
      (pss_cons (ps_for PassesOwn.never rfl (pi_list (pv 0)) (pg_name (i := 1) sc_law_cells.nd rfl (.inl rfl))
      (pss_one (ps_if (PW.pt (pw_or (pt_not (pt_val (pe_callB call_isi (by rfl) T.z_isinstance (by decide +kernel) (pa_cons (pv 1) (pa_cons (pe_bltn (v := .ty "tuple") (by rfl) T.z_tuple (by decide +kernel) rfl) pa_nil))))) (pw_or (pt_cmpR op_ne (pe_callB call_lenU (by rfl) T.z_len (by decide +kernel) (pa_cons (pv 1) pa_nil)) pe_int (nomark _)) (pw_or (pt_not (pt_val (pe_call (ok_law_integer T) (hr.mono (by decide)) (by rfl) T.g_law_integer T.F_law_integer.kp T.b_law_integer .nil pass0 (pa_cons (pe_ix (ix_tupK (K := K) rfl) (pv 1) pe_int (fun _ _ => rfl)) pa_nil)))) (pw_or1 (pt_not (pt_val (pe_call (ok_law_integer T) (hr.mono (by decide)) (by rfl) T.g_law_integer T.F_law_integer.kp T.b_law_integer .nil pass0 (pa_cons (pe_ix (ix_tupK (K := K) rfl) (pv 1) pe_int (fun _ _ => rfl)) pa_nil)))))))))
      (pss_one (ps_ret pe_bl))
      pss_nil)))
      (pss_one (ps_ret (pe_cmpR (op_eqD hr.units) (pv 0) (pe_callB cr_sortedC (by rfl) T.z_sorted (by decide +kernel) (pa_cons (pv 0) pa_nil)) (nomark _)))))), ?_⟩
    obtain ⟨ts, hl, ht, rfl⟩ := id hC
    refine ⟨_, rfl, _, _, _, _, _, rfl, .ty _, .base (.lst hl), rfl, ?_⟩
    refine ⟨_, rfl, _, rfl, l, rfl, ⟨_, lst_of hl⟩, for_list (K := K) (a := l) (xs := ts.map fun t => V.ref t.1) (fun i σ H' => H' = H ∧ ∃ v : Option V, σ = [some (.ref l), v]) ⟨rfl, _, rfl⟩ (fun i σ H' _ p => by rw [p.1]; exact lst_of hl) ?_ ?_⟩
    · rintro i x σ H' hi ⟨rfl, v, rfl⟩
      obtain ⟨t, mt, rfl, _⟩ := item_cells (H := H') hi rfl
      have g := ht t mt
      refine ⟨_, rfl, _, _, _, _, _, rfl, .ty _, .base (.tup g), rfl, ?_⟩
      refine ⟨_, rfl, _, rfl, _, _, rfl, tup_of g, rfl, _, rfl, iteF ?_⟩
      refine ⟨_, rfl, _, _, _, _, rfl, rfl, tup_of g, rfl, _, rfl, _, rfl, iteF ?_⟩
      refine ⟨_, rfl, _, _, _, _, rfl, rfl, tup_of g, rfl, _, rfl, _, rfl, iteF ?_⟩
      exact ⟨rfl, _, rfl⟩
    · rintro σ H' ⟨rfl, v, rfl⟩
      refine ⟨_, rfl, _, rfl, _, _, rfl, hC, nodup_lt pw, fun p H1 qs e1 n1 h1 c1 l1 => ⟨_, _, dp_cells (hC.up e1), dp_cells h1, shaped_cells _, shaped_cells _, ?_⟩⟩
      rw [eqv_cells, canP_eq c1 pw fun _ => Iff.rfl, decide_eq_true rfl]
      exact q H1 e1
theorem joinL_e : ∀ ps : List (List Nat), joinL [] ps = ps.flatten
  | [] => rfl
  | [p] => by simp [joinL]
  | p :: q :: r => by
    show p ++ ([] ++ joinL [] (q :: r)) = _
    rw [joinL_e (q :: r)]
    rfl
theorem depAll_of : ∀ {l : List PyData} {n : Nat}, (∀ d ∈ l, d.depth ≤ n) → PyData.depthAll l ≤ n
  | [], n, _ => Nat.zero_le n
  | d :: l, n, h => by
    show max d.depth (PyData.depthAll l) ≤ n
    exact Nat.max_le.mpr ⟨h d List.mem_cons_self, depAll_of fun e m => h e (List.mem_cons_of_mem _ m)⟩
theorem canAll_of : ∀ {l : List PyData}, (∀ d ∈ l, d.canLay0 = true) → PyData.canLayAll0 l = true
  | [], _ => rfl
  | d :: l, h => by
    show (d.canLay0 && PyData.canLayAll0 l) = true
    rw [h d List.mem_cons_self, canAll_of fun e m => h e (List.mem_cons_of_mem _ m)]
    rfl
theorem nodup_len {l m : List Pr} (h1 : l.Nodup) (h2 : m.Nodup) (e : ∀ x, x ∈ l ↔ x ∈ m) : l.length = m.length := ((List.perm_ext_iff_of_nodup h1 h2).mpr e).length_eq
theorem winS_ok (A : Pr → Bool) (r c : Int) (w : Nat) : PyData.strOk (winS A r c w) = true := by
  have cs : ∀ d ∈ tl (winS A r c w), d < 128 := fun d m => by
    unfold winS at m
    rw [join_eq, tl_join, show tl (Str.ofString "") = [] by decide +kernel, joinL_e] at m
    obtain ⟨l, ml, mx⟩ := List.mem_flatten.mp m
    obtain ⟨y, my, rfl⟩ := List.mem_map.mp ml
    obtain ⟨b, _, rfl⟩ := List.mem_map.mp my
    cases hb : A (r, c + (b : Int)) with
    | true =>
      rw [hb] at mx
      have : tl (sgC true) = [79] := by decide +kernel
      rw [this] at mx
      rw [List.mem_singleton.mp mx]
      decide
    | false =>
      rw [hb] at mx
      have : tl (sgC false) = [46] := by decide +kernel
      rw [this] at mx
      rw [List.mem_singleton.mp mx]
      decide
  unfold PyData.strOk
  rw [Array.all_eq_true']
  intro d m
  have := cs d (by show d ∈ (winS A r c w).cps.toList; exact Array.mem_toList_iff.mpr m)
  simp
  omega
theorem dpAll_strs {K : PySem.W.Frag} {H : Hp} : ∀ T : List Str, DpAll K H (T.map V.str) (T.map PyData.str)
  | [] => .nil
  | t :: T => .cons (.str t) (dpAll_strs T)
theorem shaped_strs {T : List Str} (h : ∀ t ∈ T, PyData.strOk t = true) : SeqAt.shaped (.list (T.map PyData.str)) = true := by
  have h1 : PyData.depthAll (T.map PyData.str) ≤ 10 := depAll_of fun d m => by
    obtain ⟨x, _, rfl⟩ := List.mem_map.mp m
    exact Nat.le_of_ble_eq_true rfl
  have h2 : PyData.canLayAll0 (T.map PyData.str) = true := canAll_of fun d m => by
    obtain ⟨x, mx, rfl⟩ := List.mem_map.mp m
    simp [PyData.canLay0, h x mx]
  unfold SeqAt.shaped
  simp [PyData.canLay0, PyData.depth, h2]
  omega
def sp_law_shows (C : Addr) : Sp := fun vs H Q _ => ∃ (W ru S D l : Addr) (gen : Int) (ks : List Pr) (g : Pr → Nat) (qs : List Pr) (x : Int), vs = [.ref W, .ref l, .int x] ∧ WAt C H W gen ru S D ∧ LivIs H D ks g ∧ ks.length < 100000 ∧
  Cells H l qs ∧ qs.Pairwise ltP ∧ (∀ y, y ∈ qs ↔ inB g y = true) ∧ qs.length < 100000 ∧ (∀ y ∈ qs, y.1.natAbs < 2 ^ 54 ∧ y.2.natAbs < 2 ^ 54) ∧ ∀ H', Same H H' → Q (.bl true) H'
theorem ok_law_shows (T : Txt K mg) : FnOk P w K mg base CX0 6 T.f_law_shows T.d_law_shows ["world", "cells", "x"] (sp_law_shows T.C_World) := by
  refine T.F_law_shows.ok sc_law_shows (fun vs H Q E h => ?_) (fun cdv A outer s H vs Q E hr h => ?_)
  · obtain ⟨_, _, _, _, _, _, _, _, _, _, rfl, _⟩ := h
    rfl
  · obtain ⟨W, ru, S, D, l, gen, ks, g, qs, x, rfl, hW, hL, fk, hC, pw, mem, fq, bq, q⟩ := h
    have hu : (A.deeper (envOfC (Str.ofString "_law_shows") (defScope s_law_shows) s.heap.objs.size T.f_law_shows cdv)).units + 65 < cLine := by
      have := hr.un
      omega
    have lcw : (cellsW ks g).length = qs.length := nodup_len (cellsW_nd hL.nd) (nodup_lt pw) fun y => (hL.mem y).trans (mem y).symm
    obtain ⟨dx, ho⟩ := id hW
    obtain ⟨ts, hl, ht, ets⟩ := id hC
    have lts : ts.length = qs.length := by rw [← ets, List.length_map]
    refine ⟨_, (pss_cons (ps_if (PW.pt (pw_or (pt_cmpR op_ne (pe_meth0 (pv 0) T.cl_World T.m_World_count (ok_World_count T) (hr.mono (by decide)) T.b_World_count .nil pass0) (pe_callB call_lenL (by rfl) T.z_len (by decide +kernel) (pa_cons (pv 1) pa_nil)) (nomark _)) (pw_or (pt_not (pt_val (pe_call (ok_law_cells T) (hr.mono (by decide)) (by rfl) T.g_law_cells T.F_law_cells.kp T.b_law_cells .nil pass0 (pa_cons (pe_meth0 (pv 0) T.cl_World T.m_World_cells (ok_World_cells T) (hr.mono (by decide)) T.b_World_cells .nil pass0) pa_nil)))) (pw_or1 (pt_cmpR (op_neD hr.units) (pe_meth0 (pv 0) T.cl_World T.m_World_cells (ok_World_cells T) (hr.mono (by decide)) T.b_World_cells .nil pass0) (pv 1) (nomark _))))))
      (pss_one (ps_ret pe_bl))
      pss_nil)
      (pss_cons (ps_mid (ps_if (pt_cmpR (op_eqD hr.units) (pv 1) (pe_lst pa_nil) (nomark _))
      (pss_one (ps_if (pt_cmpR op_notN (pe_meth0 (pv 0) T.cl_World T.m_World_bounds (ok_World_bounds T) (hr.mono (by decide)) T.b_World_bounds .nil pass0) pe_non (nomark _))
      (pss_one (ps_ret pe_bl))
      pss_nil))
      (pss_cons (ps_set (i := 3) sc_law_shows.nd rfl (.inl rfl) (pe_tup (pa_cons (pe_callB (cr_min rfl) (by rfl) T.z_min (by decide +kernel) (pa_cons (pe_lc (own := [("r", 4), ("c", 5)]) (tt := tYes) rfl sc_law_shows.nd (pi_list (pv 1)) (blkOk_by (own := [("r", 4), ("c", 5)]) (N := N_law_shows) (sc := defScope s_law_shows) (by decide +kernel)) (fun _ _ _ _ _ => (pg_tupK (K := K) (n := 2) rfl rfl (pgs_cons (pg_name (i := 4) sc_law_shows.nd rfl (.inl rfl)) (pgs_cons (pg_name (i := 5) sc_law_shows.nd rfl (.inl rfl)) pgs_nil)))) (fun _ _ _ _ _ => pts_nil) (fun _ _ _ _ _ => (pv 4))) pa_nil)) (pa_cons (pe_callB (cr_min rfl) (by rfl) T.z_min (by decide +kernel) (pa_cons (pe_lc (own := [("r", 4), ("c", 5)]) (tt := tYes) rfl sc_law_shows.nd (pi_list (pv 1)) (blkOk_by (own := [("r", 4), ("c", 5)]) (N := N_law_shows) (sc := defScope s_law_shows) (by decide +kernel)) (fun _ _ _ _ _ => (pg_tupK (K := K) (n := 2) rfl rfl (pgs_cons (pg_name (i := 4) sc_law_shows.nd rfl (.inl rfl)) (pgs_cons (pg_name (i := 5) sc_law_shows.nd rfl (.inl rfl)) pgs_nil)))) (fun _ _ _ _ _ => pts_nil) (fun _ _ _ _ _ => (pv 5))) pa_nil)) (pa_cons (pe_callB (cr_max rfl) (by rfl) T.z_max (by decide +kernel) (pa_cons (pe_lc (own := [("r", 4), ("c", 5)]) (tt := tYes) rfl sc_law_shows.nd (pi_list (pv 1)) (blkOk_by (own := [("r", 4), ("c", 5)]) (N := N_law_shows) (sc := defScope s_law_shows) (by decide +kernel)) (fun _ _ _ _ _ => (pg_tupK (K := K) (n := 2) rfl rfl (pgs_cons (pg_name (i := 4) sc_law_shows.nd rfl (.inl rfl)) (pgs_cons (pg_name (i := 5) sc_law_shows.nd rfl (.inl rfl)) pgs_nil)))) (fun _ _ _ _ _ => pts_nil) (fun _ _ _ _ _ => (pv 4))) pa_nil)) (pa_cons (pe_callB (cr_max rfl) (by rfl) T.z_max (by decide +kernel) (pa_cons (pe_lc (own := [("r", 4), ("c", 5)]) (tt := tYes) rfl sc_law_shows.nd (pi_list (pv 1)) (blkOk_by (own := [("r", 4), ("c", 5)]) (N := N_law_shows) (sc := defScope s_law_shows) (by decide +kernel)) (fun _ _ _ _ _ => (pg_tupK (K := K) (n := 2) rfl rfl (pgs_cons (pg_name (i := 4) sc_law_shows.nd rfl (.inl rfl)) (pgs_cons (pg_name (i := 5) sc_law_shows.nd rfl (.inl rfl)) pgs_nil)))) (fun _ _ _ _ _ => pts_nil) (fun _ _ _ _ _ => (pv 5))) pa_nil)) pa_nil))))))
      (pss_one (ps_if (pt_cmpR (op_neD hr.units) (pe_meth0 (pv 0) T.cl_World T.m_World_bounds (ok_World_bounds T) (hr.mono (by decide)) T.b_World_bounds .nil pass0) (pv 3) (nomark _))
      (pss_one (ps_ret pe_bl))
      pss_nil)))))
      (pss_cons (ps_set (i := 4) sc_law_shows.nd rfl (.inl rfl) (pe_op op_sub (pe_op op_mod (pv 2) pe_int) pe_int))
      (pss_cons (ps_set (i := 5) sc_law_shows.nd rfl (.inl rfl) (pe_op op_sub (pe_op op_mod (pe_op op_fdiv (pv 2) pe_int) pe_int) pe_int))
      (pss_cons (ps_mid (ps_if (PW.pt (pw_and (pt_cmpR op_gt (pe_callB call_lenL (by rfl) T.z_len (by decide +kernel) (pa_cons (pv 1) pa_nil)) pe_int (nomark _)) (pw_and1 (pt_cmpR op_eq (pe_op op_mod (pe_op op_fdiv (pv 2) pe_int) pe_int) pe_int (nomark _)))))
      (pss_cons (ps_set (i := 4) sc_law_shows.nd rfl (.inl rfl) (pe_op op_sub (pe_ix (ix_tupK (K := K) rfl) (pe_ix ix_list (pv 1) (pe_op op_mod (pe_op op_fdiv (pv 2) pe_int) (pe_callB call_lenL (by rfl) T.z_len (by decide +kernel) (pa_cons (pv 1) pa_nil))) (fun _ _ => rfl)) pe_int (fun _ _ => rfl)) (pe_op op_mod (pv 2) pe_int)))
      (pss_one (ps_set (i := 5) sc_law_shows.nd rfl (.inl rfl) (pe_op op_sub (pe_ix (ix_tupK (K := K) rfl) (pe_ix ix_list (pv 1) (pe_op op_mod (pe_op op_fdiv (pv 2) pe_int) (pe_callB call_lenL (by rfl) T.z_len (by decide +kernel) (pa_cons (pv 1) pa_nil))) (fun _ _ => rfl)) pe_int (fun _ _ => rfl)) (pe_op op_mod (pe_op op_fdiv (pv 2) pe_int) pe_int)))))
      pss_nil))
      (pss_cons (ps_set (i := 6) sc_law_shows.nd rfl (.inl rfl) (pe_op op_add pe_int (pe_op op_mod (pe_op op_fdiv (pv 2) pe_int) pe_int)))
      (pss_cons (ps_set (i := 7) sc_law_shows.nd rfl (.inl rfl) (pe_op op_add pe_int (pe_op op_mod (pe_op op_fdiv (pv 2) pe_int) pe_int)))
      (pss_cons (ps_set (i := 8) sc_law_shows.nd rfl (.inl rfl) (pe_lst pa_nil))
      (pss_cons (ps_for PassesOwn.never rfl (pi_range2 (by rfl) T.z_range (pa_cons (pv 4) (pa_cons (pe_op op_add (pv 4) (pv 6)) pa_nil))) (pg_name (i := 9) sc_law_shows.nd rfl (.inr rfl))
      (pss_one (ps_expr (pe_bm PySem.F.plainAttrs_list PySem.F.slot_list_append PySem.F.type_list_append mt_append (pv 8) (pa_cons (pe_join pe_str (pe_lc (own := [("j", 10)]) (g := gName 10) (tt := tYes) rfl sc_law_shows.nd (pi_range2 (by rfl) T.z_range (pa_cons (pv 5) (pa_cons (pe_op op_add (pv 5) (pv 7)) pa_nil))) (blkOk_by (own := [("j", 10)]) (N := N_law_shows) (sc := defScope s_law_shows) (by decide +kernel)) (fun _ _ _ _ _ => pg_name (i := 10) sc_law_shows.nd rfl (Or.inl rfl)) (fun _ _ _ _ _ => pts_nil) (fun _ _ _ _ _ => (pe_ix ix_str pe_str (pe_callTy call_intB (by rfl) T.z_int (by decide +kernel) (pa_cons (pe_cmpR (op_inP hu) (pe_tup (pa_cons (pv 9) (pa_cons (pv 10) pa_nil))) (pv 1) rfl) pa_nil)) (fun _ _ => rfl))))) pa_nil)))))
      (pss_cons (ps_if (pt_cmpR (op_neD hr.units) (pe_meth (pv 0) T.cl_World T.m_World_window (ok_World_window T) (hr.mono (by decide)) T.b_World_window .nil pass0 (pa_cons (pv 4) (pa_cons (pv 5) (pa_cons (pv 6) (pa_cons (pv 7) pa_nil))))) (pv 8) (nomark _))
      (pss_one (ps_ret pe_bl))
      pss_nil)
      (pss_one (ps_ret (pe_cmpR op_eq (pe_meth (pv 0) T.cl_World T.m_World_alive (ok_World_alive T) (hr.mono (by decide)) T.b_World_alive .nil pass0 (pa_cons (pv 4) (pa_cons (pv 5) pa_nil))) (pe_cmpR (op_inP hu) (pe_tup (pa_cons (pv 4) (pa_cons (pv 5) pa_nil))) (pv 1) rfl) (nomark _)))))))))))))), ?_⟩
    refine ⟨_, rfl, W, _, _, rfl, ho, rfl, W, ru, S, D, gen, ks, g, rfl, hW, hL, by omega, fun H1 e1 => ?_⟩
    refine ⟨_, rfl, _, _, rfl, lst_of (e1 _ _ hl), rfl, _, rfl, ?_⟩
    rw [decide_eq_true (by rw [lcw, List.length_map, lts])]
    refine iteF ?_
    refine ⟨_, rfl, W, _, _, rfl, e1 _ _ ho, rfl, W, ru, S, D, gen, ks, g, rfl, hW.up e1, hL.up e1, by omega, by omega, fun H2 p2 qs2 n2 e2 h2 pw2 mem2 len2 => ?_⟩
    refine ⟨p2, qs2, rfl, h2, pw2, fun H3 e3 => ⟨_, rfl, iteF ?_⟩⟩
    have s3 := e1.trans (e2.trans e3)
    refine ⟨_, rfl, W, _, _, rfl, s3 _ _ ho, rfl, W, ru, S, D, gen, ks, g, rfl, hW.up s3, hL.up s3, by omega, by omega, fun H4 p4 qs4 n4 e4 h4 pw4 mem4 len4 => ?_⟩
    have s4 := s3.trans e4
    have eq4 : qs4 = qs := canP_eq ⟨pw4, fun y => (mem4 y).trans (mem y).symm⟩ pw fun _ => Iff.rfl
    refine ⟨_, rfl, _, _, dp_cells h4, dp_cells (hC.up s4), shaped_cells _, shaped_cells _, _, rfl, ?_⟩
    rw [eqv_cells, eq4, decide_eq_true rfl]
    refine iteF ?_
    refine ⟨fun σ H' => Same H H' ∧ ∃ v3 v4 v5 : Option V, σ = [some (.ref W), some (.ref l), some (.int x), v3, v4, v5, none, none, none, none, none], ?_, ?_⟩
    · refine ⟨_, rfl, (by k_clsL), fun pe ne => ?_⟩
      k_invariant "new" (ne, H5, e5, g5)
      have s5 := s4.trans e5
      have hE : Cells H5 pe [] := ⟨[], g5, fun _ m => (by cases m), rfl⟩
      refine ⟨_, _, dp_cells (hC.up s5), dp_cells hE, shaped_cells _, shaped_cells _, _, rfl, ?_⟩
      rw [eqv_cells]
      by_cases eq0 : qs = []
      · rw [decide_eq_true eq0]
        refine iteT ?_
        refine ⟨_, rfl, W, _, _, rfl, s5 _ _ ho, rfl, W, ru, S, D, gen, ks, g, rfl, hW.up s5, hL.up s5, by omega, by omega, fun H6 e6 hno => ?_, fun H6 p6 qs6 r0 c0 r1 c1 e6 ne6 pw6 mem6 _ _ _ _ _ => ?_⟩
        · refine ⟨rfl, _, rfl, iteF ?_⟩
          exact ⟨s5.trans e6, _, _, _, rfl⟩
        · refine absurd ?_ ne6
          cases qs6 with
          | nil => rfl
          | cons y rest =>
            have := (mem y).mpr ((mem6 y).mp List.mem_cons_self)
            rw [eq0] at this
            cases this
      · rw [decide_eq_false eq0]
        refine iteF ?_
        have num : ∀ (f : Pr → Int), 0 < (qs.map f).length := fun f => by
          rw [List.length_map]
          exact List.length_pos_iff.mpr eq0
        have few : qs.length < sizeLine := by rw [sizeLine_eq]; omega
        have hC5 := hC.up s5
        refine ⟨_, rfl, _, rfl, ⟨_, lst_of hC5.choose_spec.1⟩, fun D1 nD1 => lc_nums (·.1) hC5 nD1 few (fun t y H' Po Pn _ ht hq => ⟨t, _, rfl, tup_of ht, rfl, _, _, rfl, _, _, rfl, rfl, rfl, tyesT ⟨_, rfl, hq⟩⟩) fun H6 e6 h6 => ?_⟩
        refine ⟨_, _, rfl, lst_of h6, num _, fun r0 mr0 lr0 => ?_⟩
        have hC6 := hC5.up e6
        refine ⟨_, rfl, _, rfl, ⟨_, lst_of hC6.choose_spec.1⟩, fun D2 nD2 => lc_nums (·.2) hC6 nD2 few (fun t y H' Po Pn _ ht hq => ⟨t, _, rfl, tup_of ht, rfl, _, _, rfl, _, _, rfl, rfl, rfl, tyesT ⟨_, rfl, hq⟩⟩) fun H7 e7 h7 => ?_⟩
        refine ⟨_, _, rfl, lst_of h7, num _, fun c0 mc0 lc0 => ?_⟩
        have hC7 := hC6.up e7
        refine ⟨_, rfl, _, rfl, ⟨_, lst_of hC7.choose_spec.1⟩, fun D3 nD3 => lc_nums (·.1) hC7 nD3 few (fun t y H' Po Pn _ ht hq => ⟨t, _, rfl, tup_of ht, rfl, _, _, rfl, _, _, rfl, rfl, rfl, tyesT ⟨_, rfl, hq⟩⟩) fun H8 e8 h8 => ?_⟩
        refine ⟨_, _, rfl, lst_of h8, num _, fun r1 mr1 lr1 => ?_⟩
        have hC8 := hC7.up e8
        refine ⟨_, rfl, _, rfl, ⟨_, lst_of hC8.choose_spec.1⟩, fun D4 nD4 => lc_nums (·.2) hC8 nD4 few (fun t y H' Po Pn _ ht hq => ⟨t, _, rfl, tup_of ht, rfl, _, _, rfl, _, _, rfl, rfl, rfl, tyesT ⟨_, rfl, hq⟩⟩) fun H9 e9 h9 => ?_⟩
        refine ⟨_, _, rfl, lst_of h9, num _, fun c1 mc1 lc1 => ?_⟩
        refine ⟨(by k_clsL), fun pb nb => ?_⟩
        k_invariant "new" (nb, Hb, eb, gb)
        have sb := s5.trans (e6.trans (e7.trans (e8.trans (e9.trans eb))))
        refine ⟨_, rfl, W, _, _, rfl, sb _ _ ho, rfl, W, ru, S, D, gen, ks, g, rfl, hW.up sb, hL.up sb, by omega, by omega, fun H6 e6 hno => ?_, fun Hc pc qsc r0' c0' r1' c1' ec nec pwc memc gc l1 l2 l3 l4 => ?_⟩
        · refine absurd ?_ eq0
          cases qs with
          | nil => rfl
          | cons y rest =>
            have := (mem y).mp List.mem_cons_self
            rw [hno y] at this
            cases this
        · have eqc : qsc = qs := canP_eq ⟨pwc, fun y => (memc y).trans (mem y).symm⟩ pw fun _ => Iff.rfl
          rw [eqc] at l1 l2 l3 l4
          obtain rfl : r0' = r0 := l1.uniq ⟨mr0, fun y my => lr0 y my⟩
          obtain rfl : c0' = c0 := l2.uniq ⟨mc0, fun y my => lc0 y my⟩
          obtain rfl : r1' = r1 := l3.uniq ⟨mr1, fun y my => lr1 y my⟩
          obtain rfl : c1' = c1 := l4.uniq ⟨mc1, fun y my => lc1 y my⟩
          refine ⟨_, rfl, _, _, dp_tupI (l := [r0', c0', r1', c1']) (tup_of gc), dp_tupI (l := [r0', c0', r1', c1']) (tup_of (ec _ _ gb)), shaped_tupI _, shaped_tupI _, _, rfl, ?_⟩
          rw [eqv_tupI, decide_eq_true rfl]
          refine iteF ?_
          exact ⟨sb.trans ec, _, _, _, rfl⟩
    · rintro σ H5 ⟨s5, v3, v4, v5, rfl⟩
      k_upd
      refine ⟨_, rfl, _, _, rfl, rfl, (by k_offL), _, _, rfl, rfl, ?_⟩
      k_upd
      refine ⟨_, rfl, _, _, rfl, rfl, (by k_offL), _, _, rfl, rfl, (by k_offL), _, _, rfl, rfl, ?_⟩
      k_upd
      have r21 : -12 ≤ x % 21 - 12 ∧ x % 21 - 12 < 9 := by omega
      have c21 : -12 ≤ x / 21 % 21 - 12 ∧ x / 21 % 21 - 12 < 9 := by omega
      generalize x % 21 - 12 = r at r21
      generalize x / 21 % 21 - 12 = c at c21
      have hC5 := hC.up s5
      obtain ⟨ts5, hl5, ht5, ets5⟩ := id hC5
      have lts5 : ts5.length = qs.length := by rw [← ets5, List.length_map]
      refine ⟨fun σ H' => H' = H5 ∧ ∃ r c : Int, σ = [some (.ref W), some (.ref l), some (.int x), v3, some (.int r), some (.int c), none, none, none, none, none] ∧ r.natAbs < 2 ^ 54 + 100 ∧ c.natAbs < 2 ^ 54 + 100, ?_, ?_⟩
      · refine ⟨_, rfl, _, _, rfl, lst_of hl5, _, _, rfl, rfl, _, rfl, ite2 (fun a1 => ?_) (fun a1 => ?_)⟩
        · have a1 := of_decide_eq_true a1
          rw [List.length_map, lts5] at a1
          have q0 : 0 < (qs.length : Int) := a1
          refine ⟨_, rfl, _, _, rfl, rfl, (by k_offL), _, _, rfl, rfl, (by k_offL), rfl, _, rfl, ite2 (fun a2 => ?_) (fun a2 => ?_)⟩
          · have j0 := Int.emod_nonneg (x / 882) (show ((ts5.map fun t => V.ref t.1).length : Int) ≠ 0 by rw [List.length_map, lts5]; omega)
            have j1 := Int.emod_lt_of_pos (x / 882) (show (0 : Int) < ((ts5.map fun t => V.ref t.1).length : Int) by rw [List.length_map, lts5]; omega)
            obtain ⟨t, mt, hat⟩ : ∃ t ∈ ts5, atI (ts5.map fun t => V.ref t.1) (x / 882 % ((ts5.map fun t => V.ref t.1).length : Int)) = some (.ref t.1) := by
              generalize x / 882 % ((ts5.map fun t => V.ref t.1).length : Int) = j at j0 j1
              rw [List.length_map] at j1
              have lj : j.toNat < ts5.length := by omega
              refine ⟨ts5[j.toNat], List.getElem_mem lj, ?_⟩
              have z : atI (ts5.map fun t => V.ref t.1) ((j.toNat : Nat) : Int) = some (.ref ts5[j.toNat].1) := atI_nat (by rw [List.getElem?_map, List.getElem?_eq_getElem lj]; rfl)
              rwa [show ((j.toNat : Nat) : Int) = j by omega] at z
            have gt := ht5 t mt
            have bt := bq t.2 (by rw [← ets5]; exact List.mem_map.mpr ⟨t, mt, rfl⟩)
            refine ⟨_, rfl, _, rfl, _, _, rfl, rfl, (by k_offL), _, rfl, _, _, rfl, lst_of hl5, _, _, rfl, rfl, (by show (0 : Int) < _; rw [List.length_map, lts5]; omega), _, _, _, _, rfl, rfl, lst_of hl5, hat, _, _, _, _, rfl, rfl, tup_of gt, rfl, _, rfl, _, _, rfl, rfl, (by k_offL), _, _, rfl, rfl, ?_⟩
            k_upd
            refine ⟨_, rfl, _, rfl, _, _, rfl, rfl, (by k_offL), _, rfl, _, _, rfl, lst_of hl5, _, _, rfl, rfl, (by show (0 : Int) < _; rw [List.length_map, lts5]; omega), _, _, _, _, rfl, rfl, lst_of hl5, hat, _, _, _, _, rfl, rfl, tup_of gt, rfl, _, rfl, _, _, rfl, rfl, (by k_offL), _, _, rfl, rfl, (by k_offL), _, _, rfl, rfl, ?_⟩
            k_upd
            exact ⟨rfl, _, _, rfl, by omega, by omega⟩
          · exact ⟨rfl, _, _, rfl, by omega, by omega⟩
        · exact ⟨rfl, _, _, rfl, by omega, by omega⟩
      · rintro σ H6 ⟨eH, r, c, rfl, rb, cb⟩
        subst eH
        k_upd
        refine ⟨_, rfl, _, _, rfl, rfl, (by k_offL), _, _, rfl, rfl, (by k_offL), _, _, rfl, rfl, ?_⟩
        k_upd
        refine ⟨_, rfl, _, _, rfl, rfl, (by k_offL), _, _, rfl, rfl, (by k_offL), _, _, rfl, rfl, ?_⟩
        k_upd
        obtain ⟨h, eh, h0, h9⟩ : ∃ h : Nat, 1 + x / 7 % 9 = (h : Int) ∧ 1 ≤ h ∧ h ≤ 9 := ⟨(1 + x / 7 % 9).toNat, by omega, by omega, by omega⟩
        obtain ⟨w, ew, w0, w9⟩ : ∃ w : Nat, 1 + x / 63 % 11 = (w : Int) ∧ 1 ≤ w ∧ w ≤ 11 := ⟨(1 + x / 63 % 11).toNat, by omega, by omega, by omega⟩
        rw [eh, ew]
        refine ⟨(by k_clsL), fun pd nd => ?_⟩
        k_invariant "new" (nd, H7, e7, g7)
        have hC7 := hC5.up e7
        k_upd
        refine ⟨_, rfl, _, rfl, _, rfl, _, _, rfl, rfl, _, _, rfl, ⟨by omega, by omega, by omega, by omega⟩, for_range (lo := r) (n := (r + (h : Int) - r).toNat) (fun i σ H' => Same H6 H' ∧ (∃ v9 v10 : Option V, σ = [some (.ref W), some (.ref l), some (.int x), v3, some (.int r), some (.int c), some (.int (h : Int)), some (.int (w : Int)), some (.ref pd), v9, v10]) ∧
            H' pd = some (.lst ((List.range i).map fun (a : Nat) => V.str (winS (fun y => decide (y ∈ qs)) (r + (a : Int)) c w))))
          ⟨e7, ⟨_, _, rfl⟩, g7⟩ ?_ ?_⟩
        · rintro i σ H' hi ⟨sm, ⟨v9, v10, rfl⟩, hp⟩
          have li : i < h := by omega
          have hCi := hC7.up (Same.refl _)
          have sgs : ∀ b : Bool, atI (Str.ofString ".O").cps.toList (if b = true then (1 : Int) else 0) = some (if b then 79 else 46) := by decide +kernel
          have lsg : (Str.ofString ".O").length ≤ sizeLine := by
            have : (Str.ofString ".O").length = 2 := by decide +kernel
            rw [this]
            decide
          have one : ∀ b : Bool, (⟨#[if b then 79 else 46]⟩ : Str) = sgC b := by decide +kernel
          refine ⟨_, rfl, .inl ⟨rfl, _, lst_of hp⟩, ⟨_, rfl⟩, _, rfl, _, rfl, _, rfl, _, _, rfl, rfl, _, _, rfl, ⟨by omega, by omega, by omega, by omega⟩, fun D nD => lc_range (lo := c) (n := (c + (w : Int) - c).toNat)
            (fun j H2 => Same H' H2 ∧ H2 D = some (.lst (((List.range j).map fun (b : Nat) => sgC (decide ((r + (i : Int), c + (b : Int)) ∈ qs))).map V.str))) ⟨newS nD, upd_same⟩ ?_ ?_⟩
          · rintro j H2 hj ⟨sm2, hd2⟩
            refine ⟨rfl, tyesT ⟨_, rfl, _, rfl, by k_clsL, fun t nt => ?_⟩⟩
            k_invariant "new" (nt, H3, e3, g3)
            have hC3 := ((hC5.up sm).up sm2).up e3
            refine ⟨_, rfl, t, l, (r + (i : Int), c + (j : Int)), qs, rfl, rfl, g3, hC3, _, rfl, _, _, _, rfl, rfl, lsg, sgs _, _, e3 _ _ hd2, ?_, mutS (sm2.trans e3) nD, ?_⟩
            · rw [List.length_map, List.length_map, List.length_range, sizeLine_eq]
              omega
            · rw [upd_same, List.range_succ, List.map_append, List.map_append, one]
              rfl
          · rintro H2 ⟨sm2, hd2⟩
            rw [show (c + (w : Int) - c).toNat = w by omega] at hd2
            refine ⟨_, D, _, rfl, rfl, .inl (lst_of hd2), ?_, _, _, _, rfl, rfl, sm2 _ _ hp, ?_, ?_⟩
            · have : (((List.range w).map fun (b : Nat) => sgC (decide ((r + (i : Int), c + (b : Int)) ∈ qs))).map (·.length)).sum ≤ w := by
                rw [List.map_map]
                have : ((List.range w).map ((·.length) ∘ fun (b : Nat) => sgC (decide ((r + (i : Int), c + (b : Int)) ∈ qs)))) = (List.range w).map fun _ => 1 := List.map_congr_left fun b _ => sgC_len _
                rw [this, List.map_const', List.sum_replicate_nat, List.length_range]
                omega
              rw [show (Str.ofString "").length = 0 by decide +kernel]
              omega
            · rw [List.length_map, List.length_range, sizeLine_eq]
              omega
            · refine ⟨?_, ⟨_, _, rfl⟩, ?_⟩
              · intro b o k
                have nb : b ≠ pd := fun e => by rw [e, nd] at k; cases k
                rw [upd_ne nb]
                exact sm2 _ _ (sm _ _ k)
              · rw [upd_same, List.range_succ, List.map_append]
                rfl
        · rintro σ H8 ⟨sm, ⟨v9, v10, rfl⟩, hp⟩
          rw [show (r + (h : Int) - r).toNat = h by omega] at hp
          have s8 := s5.trans sm
          have eA : (fun y => decide (y ∈ qs)) = inB g := funext fun y => by
            rw [Bool.eq_iff_iff, decide_eq_true_eq]
            exact mem y
          rw [eA] at hp
          refine ⟨_, rfl, W, _, _, rfl, s8 _ _ ho, rfl, _, rfl, _, rfl, _, rfl, _, rfl, ?_⟩
          refine ⟨W, ru, S, D, gen, ks, g, r, c, h, w, rfl, hW.up s8, hL.up s8, h0, by omega, w0, by omega, by omega, by omega, fun H9 p9 n9 e9 g9 => ?_⟩
          have dpw : ∀ (Hx : Hp) (a : Addr), Hx a = some (.lst ((List.range h).map fun (a : Nat) => V.str (winS (inB g) (r + (a : Int)) c w))) → Dp K Hx (.ref a) (.list (((List.range h).map fun (a : Nat) => winS (inB g) (r + (a : Int)) c w).map PyData.str)) := fun Hx a e => by
            refine .lst (lst_of e) ?_
            have := dpAll_strs (K := K) (H := Hx) ((List.range h).map fun (a : Nat) => winS (inB g) (r + (a : Int)) c w)
            rw [List.map_map] at this
            exact this
          have shw : SeqAt.shaped (.list (((List.range h).map fun (a : Nat) => winS (inB g) (r + (a : Int)) c w).map PyData.str)) = true := shaped_strs fun t m => by
            obtain ⟨a, _, rfl⟩ := List.mem_map.mp m
            exact winS_ok _ _ _ _
          refine ⟨_, rfl, _, _, dpw _ _ g9, dpw _ _ (e9 _ _ hp), shw, shw, _, rfl, ?_⟩
          rw [PySem.SeqAt.eqv_refl _ (by unfold SeqAt.shaped at shw; exact (Bool.and_eq_true_iff.mp shw).1)]
          refine iteF ?_
          have s9 := s8.trans e9
          refine ⟨_, rfl, W, _, _, rfl, s9 _ _ ho, rfl, _, rfl, _, rfl, W, ru, S, D, gen, ks, g, (r, c), rfl, hW.up s9, hL.up s9, fun Ha ea => ?_⟩
          refine ⟨_, rfl, _, rfl, by k_clsL, fun t nt => ?_⟩
          k_invariant "new" (nt, Hb, eb, gb)
          refine ⟨_, rfl, t, l, (r, c), qs, rfl, rfl, gb, (hC.up (s9.trans ea)).up eb, rfl, ?_⟩
          have : decide ((r, c) ∈ qs) = inB g (r, c) := congrFun eA (r, c)
          rw [this, decide_eq_true rfl]
          exact q Hb ((s9.trans ea).trans eb)
end
end My
namespace My
open PySem PySem.Spec PyProof.Rows L2 Vx
open TL
local macro_rules | `(tactic| k_invariant "new" ($n, $H:ident, $e:ident, $h:ident)) => `(tactic| (generalize hE : upd _ _ _ = $H; obtain ⟨$e:ident, $h:ident⟩ := gen_e hE $n; clear hE))
local macro_rules | `(tactic| k_places) => `(tactic| first
  | assumption
  | exact lst_of (by assumption)
  | exact tup_of (by assumption)
  | (refine getS (by assumption) ?_; k_places)
  | (refine Same.seq (by assumption) ?_; k_places)
  | (refine tupS (by assumption) ?_; k_places)
  | (refine lst_of ?_; k_places)
  | (refine tup_of ?_; k_places))
local macro_rules | `(tactic| k_subL) => `(tactic| first
  | k_places
  | solve_by_elim (maxDepth := 10) [getS, lst_of, tup_of, Same.seq, tupS])
local macro_rules | `(tactic| k_offL) => `(tactic| first
  | (show (0 : Int) < _; first | omega | decide)
  | (refine ⟨?_, ?_⟩ <;> first | omega | decide)
  | exact .inr ⟨by decide, by decide⟩
  | exact .inl ⟨by decide, by decide⟩
  | exact .inl ⟨by omega, by omega⟩
  | omega)
local macro_rules | `(tactic| k_clsL) => `(tactic| exact Nat.le_of_ble_eq_true rfl)
local macro_rules | `(tactic| k_upd) => `(tactic| simp only [L2.start, List.map_cons, List.map_nil, List.length_cons, List.length_nil, List.replicate_succ, List.replicate_zero, List.cons_append, List.nil_append, List.set_cons_zero, List.set_cons_succ])
section
variable {P : Program} {w : World} {K : PySem.W.Frag} {mg : Str → Option Value} {base : Heap}
/-! ### rules -/
theorem bs_ne : ¬ (("births" : Str) = "survival") := by decide +kernel
theorem sb_ne : ¬ (("survival" : Str) = "births") := by decide +kernel
def rf (tb ts : Addr) : List (Str × V) := putF "survival" (.ref ts) (putF "births" (.ref tb) [])
theorem rf_b (tb ts : Addr) : (rf tb ts).lookup ("births" : Str) = some (.ref tb) := by
  unfold rf
  rw [lookup_putF, if_neg bs_ne, lookup_putF, if_pos rfl]
theorem rf_s (tb ts : Addr) : (rf tb ts).lookup ("survival" : Str) = some (.ref ts) := by
  unfold rf
  rw [lookup_putF, if_pos rfl]
theorem rf_no (tb ts : Addr) {m : Str} (h1 : ¬ m = "survival") (h2 : ¬ m = "births") : (rf tb ts).lookup m = none := by
  unfold rf
  rw [lookup_putF, if_neg h1, lookup_putF, if_neg h2]
  rfl
def RuleAt (C : Addr) (H : Hp) (r : Addr) (bs ss : List Int) : Prop :=
  ∃ dx tb ts, H r = some (.ins C dx (rf tb ts)) ∧ H tb = some (.tup (bs.map V.int)) ∧ H ts = some (.tup (ss.map V.int))
theorem RuleAt.up {C : Addr} {H H' : Hp} {r : Addr} {bs ss : List Int} (e : Same H H') (h : RuleAt C H r bs ss) : RuleAt C H' r bs ss := by
  obtain ⟨dx, tb, ts, h1, h2, h3⟩ := h
  exact ⟨dx, tb, ts, e _ _ h1, e _ _ h2, e _ _ h3⟩
def Canon (ns l : List Int) : Prop := l.Pairwise (· < ·) ∧ ∀ k, k ∈ l ↔ k ∈ ns
theorem canon_eq {ns l m : List Int} (h : Canon ns l) (h2 : m.Pairwise (· < ·)) (h3 : ∀ k, k ∈ ns ↔ k ∈ m) : l = m := asc_eq h.1 h2 fun k => (h.2 k).trans (h3 k)
def sp_Rule_init (K : PySem.W.Frag) (C : Addr) : Sp := fun vs H Q _ => ∃ (H0 : Hp) (r lb ls dx : Addr) (nb ns : List Int), vs = [.ref r, .ref lb, .ref ls] ∧ Same H0 H ∧ H0 r = none ∧ H r = some (.ins C dx []) ∧
  SqL K H0 lb (nb.map V.int) ∧ SqL K H0 ls (ns.map V.int) ∧ nb.length ≤ 63 ∧ ns.length ≤ 63 ∧
  ∀ (H' : Hp) (bs ss : List Int), Same H0 H' → RuleAt C H' r bs ss → Canon nb bs → Canon ns ss → Q .non H'
theorem ok_Rule_init (T : Txt K mg) : FnOk P w K mg base CX0 1 T.f_Rule_init T.d_Rule_init ["self", "births", "survival"] (sp_Rule_init K T.C_Rule) := by
  refine T.F_Rule_init.ok sc_Rule_init (fun vs H Q E h => ?_) (fun cdv A outer s H vs Q E hr h => ?_)
  · obtain ⟨_, _, _, _, _, _, _, rfl, _⟩ := h
    rfl
  · obtain ⟨H0, r, lb, ls, dx, nb, ns, rfl, s0, r0, hr0, hb, hs, l1, l2, q⟩ := h
    refine ⟨_, (pss_cons (ps_fld (pv 0) (pe_callTy call_tupL (by rfl) T.z_tuple (by decide +kernel) (pa_cons (pe_callB (cr_sortedSet rfl) (by rfl) T.z_sorted (by decide +kernel) (pa_cons (pe_callTy (cr_setL rfl) (by rfl) T.z_set (by decide +kernel) (pa_cons (pv 1) pa_nil)) pa_nil)) pa_nil)) rfl)
      (pss_one (ps_fld (pv 0) (pe_callTy call_tupL (by rfl) T.z_tuple (by decide +kernel) (pa_cons (pe_callB (cr_sortedSet rfl) (by rfl) T.z_sorted (by decide +kernel) (pa_cons (pe_callTy (cr_setL rfl) (by rfl) T.z_set (by decide +kernel) (pa_cons (pv 2) pa_nil)) pa_nil)) pa_nil)) rfl))), ?_⟩
    refine ⟨_, rfl, lb, nb, rfl, s0.seq hb, Nat.lt_of_le_of_lt (Nat.add_le_add_right l1 1) (by decide), fun p1 c1 n1 hc1 => ?_⟩
    k_invariant "new" (n1, H1, e1, h1)
    refine ⟨_, _, _, rfl, h1, by omega, fun bs p2 pw1 mem1 len1 n2 => ?_⟩
    k_invariant "new" (n2, H2, e2, h2)
    refine ⟨_, _, rfl, lst_of h2, fun p3 n3 => ?_⟩
    k_invariant "new" (n3, H3, e3, h3)
    refine ⟨_, rfl, r, T.C_Rule, dx, [], rfl, by k_subL, T.cl_Rule, T.na_Rule_births, (by show 0 < 1000; decide), ?_⟩
    have s3 : Same H0 H3 := s0.trans (e1.trans (e2.trans e3))
    have r3 : p3 ≠ r := fun e => by
      have : H3 r = some (.ins T.C_Rule dx []) := by k_subL
      rw [e] at h3
      rw [h3] at this
      cases this
    have s4 : Same H0 (upd H3 r (.ins T.C_Rule dx (putF "births" (.ref p3) []))) := mutS s3 r0
    have g4 : upd H3 r (.ins T.C_Rule dx (putF "births" (.ref p3) [])) r = some (.ins T.C_Rule dx (putF "births" (.ref p3) [])) := upd_same
    have g3 : upd H3 r (.ins T.C_Rule dx (putF "births" (.ref p3) [])) p3 = some (.tup (bs.map V.int)) := by rw [upd_ne r3]; exact h3
    generalize upd H3 r (.ins T.C_Rule dx (putF "births" (.ref p3) [])) = H4 at s4 g4 g3
    refine ⟨_, rfl, ls, ns, rfl, s4.seq hs, Nat.lt_of_le_of_lt (Nat.add_le_add_right l2 1) (by decide), fun p5 c2 n5 hc2 => ?_⟩
    k_invariant "new" (n5, H5, e5, h5)
    refine ⟨_, _, _, rfl, h5, by omega, fun ss p6 pw2 mem2 len2 n6 => ?_⟩
    k_invariant "new" (n6, H6, e6, h6)
    refine ⟨_, _, rfl, lst_of h6, fun p7 n7 => ?_⟩
    k_invariant "new" (n7, H7, e7, h7)
    have g8 : H7 r = some (.ins T.C_Rule dx (putF "births" (.ref p3) [])) := by k_subL
    refine ⟨_, rfl, r, T.C_Rule, dx, _, rfl, g8, T.cl_Rule, T.na_Rule_survival, (by show 1 < 1000; decide), ?_⟩
    have r7 : p7 ≠ r := fun e => by
      have : H7 r = some (.ins T.C_Rule dx (putF "births" (.ref p3) [])) := by k_subL
      rw [e] at h7
      rw [h7] at this
      cases this
    have g7 : H7 p3 = some (.tup (bs.map V.int)) := by k_subL
    refine q _ bs ss (mutS (s4.trans (e5.trans (e6.trans e7))) r0) ⟨dx, p3, p7, upd_same, ?_, ?_⟩ ⟨pw1, fun k => (mem1 k).trans (by simp)⟩ ⟨pw2, fun k => (mem2 k).trans (by simp)⟩
    · rw [upd_ne r3]; exact g7
    · rw [upd_ne r7]; exact h7
def Good (lo : Int) (l : List Int) : Prop := l.Pairwise (· < ·) ∧ (∀ b ∈ l, lo ≤ b ∧ b ≤ 8) ∧ l.length ≤ 9
theorem pow9 : ∀ n : Nat, n ≤ 9 → 0 < (2 : Int) ^ n ∧ (2 : Int) ^ n ≤ 512 := by decide
theorem good_snoc {lo hi : Int} {l : List Int} (h1 : l.Pairwise (· < ·)) (h2 : ∀ b ∈ l, lo ≤ b ∧ b < hi) (h : lo ≤ hi) : (l ++ [hi]).Pairwise (· < ·) ∧ ∀ b ∈ l ++ [hi], lo ≤ b ∧ b < hi + 1 := by
  constructor
  · rw [List.pairwise_append]
    refine ⟨h1, by simp, fun a ha b hb => ?_⟩
    rw [List.mem_singleton.mp hb]
    exact (h2 a ha).2
  · intro b hb
    rcases List.mem_append.mp hb with hb | hb
    · have := h2 b hb
      omega
    · rw [List.mem_singleton.mp hb]
      omega
def sp_law_numbers : Sp := fun vs H Q _ => ∃ (cell : Int), vs = [.int cell] ∧
  ∀ (H' : Hp) (p pb ps : Addr) (bs ss : List Int), Same H H' → H' p = some (.tup [.ref pb, .ref ps]) → H' pb = some (.lst (bs.map V.int)) → H' ps = some (.lst (ss.map V.int)) → Good 1 bs → Good 0 ss → Q (.ref p) H'
theorem ok_law_numbers (T : Txt K mg) : FnOk P w K mg base CX0 1 T.f_law_numbers T.d_law_numbers ["cell"] sp_law_numbers := by
  refine T.F_law_numbers.ok sc_law_numbers (fun vs H Q E h => ?_) (fun cdv A outer s H vs Q E hr h => ?_)
  · obtain ⟨_, rfl, _⟩ := h
    rfl
  · obtain ⟨cell, rfl, q⟩ := h
    refine ⟨_, (pss_cons (ps_set (i := 1) sc_law_numbers.nd rfl (.inr rfl) (pe_callB call_abs (by rfl) T.z_abs (by decide +kernel) (pa_cons (pe_callTy call_intI (by rfl) T.z_int (by decide +kernel) (pa_cons (pv 0) pa_nil)) pa_nil)))
      (pss_cons (ps_setLc (i := 2) (own := [("k", 4)]) (g := gName 4) rfl sc_law_numbers.nd rfl rfl (sw_true rfl rfl rfl (by decide +kernel)) (pi_range2 (by rfl) T.z_range (pa_cons pe_int (pa_cons pe_int pa_nil))) (blkOk_by (own := [("k", 4)]) (N := N_law_numbers) (sc := defScope s_law_numbers) (by decide +kernel)) (fun _ _ _ _ _ => pg_name (i := 4) sc_law_numbers.nd rfl (Or.inl rfl)) (fun _ _ _ _ _ => pts_one (pt_cmpR op_eq (pe_op op_mod (pe_op op_fdiv (pv 1) (pe_op op_shl pe_int (pv 4))) pe_int) pe_int (nomark _))) (fun _ _ _ _ _ => (pv 4)))
      (pss_cons (ps_setLc (i := 3) (own := [("k", 4)]) (g := gName 4) rfl sc_law_numbers.nd rfl rfl (sw_true rfl rfl rfl (by decide +kernel)) (pi_range1 (by rfl) T.z_range (pa_cons pe_int pa_nil)) (blkOk_by (own := [("k", 4)]) (N := N_law_numbers) (sc := defScope s_law_numbers) (by decide +kernel)) (fun _ _ _ _ _ => pg_name (i := 4) sc_law_numbers.nd rfl (Or.inl rfl)) (fun _ _ _ _ _ => pts_one (pt_cmpR op_eq (pe_op op_mod (pe_op op_fdiv (pv 1) (pe_op op_shl pe_int (pv 4))) pe_int) pe_int (nomark _))) (fun _ _ _ _ _ => (pv 4)))
      (pss_cons (ps_if (pt_cmpR op_eq (pe_op op_mod (pe_op op_fdiv (pv 1) pe_int) pe_int) pe_int (nomark _))
      (pss_cons (ps_set (i := 2) sc_law_numbers.nd rfl (.inl rfl) (pe_ix ix_list (pe_lst (pa_cons (pe_lst (pa_cons pe_int pa_nil)) (pa_cons (pe_lst (pa_cons pe_int (pa_cons pe_int pa_nil))) (pa_cons (pe_lst (pa_cons pe_int pa_nil)) (pa_cons (pe_lst (pa_cons pe_int (pa_cons pe_int (pa_cons pe_int pa_nil)))) (pa_cons (pe_lst (pa_cons pe_int (pa_cons pe_int pa_nil))) pa_nil)))))) (pe_op op_mod (pe_op op_fdiv (pv 1) pe_int) pe_int) (fun _ _ => rfl)))
      (pss_one (ps_set (i := 3) sc_law_numbers.nd rfl (.inl rfl) (pe_ix ix_list (pe_lst (pa_cons (pe_lst (pa_cons pe_int (pa_cons pe_int pa_nil))) (pa_cons (pe_lst (pa_cons pe_int (pa_cons pe_int pa_nil))) (pa_cons (pe_lst pa_nil) (pa_cons (pe_lst (pa_cons pe_int (pa_cons pe_int (pa_cons pe_int (pa_cons pe_int pa_nil))))) (pa_cons (pe_lst (pa_cons pe_int (pa_cons pe_int (pa_cons pe_int pa_nil)))) pa_nil)))))) (pe_op op_mod (pe_op op_fdiv (pv 1) pe_int) pe_int) (fun _ _ => rfl)))))
      pss_nil)
      (pss_one (ps_ret (pe_tup (pa_cons (pv 2) (pa_cons (pv 3) pa_nil))))))))), ?_⟩
    refine ⟨_, rfl, _, rfl, _, rfl, ?_⟩
    generalize (if cell < 0 then -cell else cell) = x
    -- births
    refine ⟨1, 9, rfl, ⟨by decide, by decide, by decide, by decide⟩, fun p1 n1 => lc_range (lo := 1) (n := 8) (fun i H' => ∃ ys : List Int, Same H H' ∧ H' p1 = some (.lst (ys.map V.int)) ∧ ys.length ≤ i ∧ ys.Pairwise (· < ·) ∧ ∀ b ∈ ys, 1 ≤ b ∧ b < 1 + (i : Int))
      ⟨[], newS n1, upd_same, by simp, by simp, by simp⟩ ?_ ?_⟩
    · rintro i H' hi ⟨ys, sm, hp, hl, h1, h2⟩
      have pw := pow9 (1 + (i : Int)).toNat (by omega)
      refine ⟨rfl, _, rfl, _, rfl, _, _, rfl, rfl, ⟨by omega, by omega, by decide⟩, _, _, rfl, rfl, ⟨?_, ?_⟩, _, _, rfl, rfl, (by k_offL), rfl, _, rfl, ite2 (fun c => ?_) (fun c => ?_)⟩
      · show (0 : Int) < 1 * 2 ^ (1 + (i : Int)).toNat
        omega
      · show (1 : Int) * 2 ^ (1 + (i : Int)).toNat < 1073741824
        omega
      · have g := good_snoc h1 h2 (by omega)
        refine ⟨_, rfl, _, hp, ?_, ys ++ [1 + (i : Int)], mutS sm n1, ?_, by simp; omega, g.1, fun b hb => ?_⟩
        · rw [List.length_map]
          exact Nat.lt_of_lt_of_le (show ys.length < 100 by omega) (by decide)
        · rw [upd_same, List.map_append]
          rfl
        · have := g.2 b hb
          omega
      · exact ⟨ys, sm, hp, by omega, h1, fun b hb => by have := h2 b hb; omega⟩
    rintro H1 ⟨bs, e1, hb, lb, gb1, gb2⟩
    have gb : Good 1 bs := ⟨gb1, fun b h => by have := gb2 b h; omega, by omega⟩
    -- survival
    refine ⟨9, rfl, by decide, by decide, fun p2 n2 => lc_range (lo := 0) (n := 9) (fun i H' => ∃ ys : List Int, Same H1 H' ∧ H' p2 = some (.lst (ys.map V.int)) ∧ ys.length ≤ i ∧ ys.Pairwise (· < ·) ∧ ∀ b ∈ ys, 0 ≤ b ∧ b < 0 + (i : Int))
      ⟨[], newS n2, upd_same, by simp, by simp, by simp⟩ ?_ ?_⟩
    · rintro i H' hi ⟨ys, sm, hp, hl, h1, h2⟩
      have pw := pow9 (0 + (i : Int)).toNat (by omega)
      refine ⟨rfl, _, rfl, _, rfl, _, _, rfl, rfl, ⟨by omega, by omega, by decide⟩, _, _, rfl, rfl, ⟨?_, ?_⟩, _, _, rfl, rfl, (by k_offL), rfl, _, rfl, ite2 (fun c => ?_) (fun c => ?_)⟩
      · show (0 : Int) < 512 * 2 ^ (0 + (i : Int)).toNat
        omega
      · show (512 : Int) * 2 ^ (0 + (i : Int)).toNat < 1073741824
        omega
      · have g := good_snoc h1 h2 (by omega)
        refine ⟨_, rfl, _, hp, ?_, ys ++ [0 + (i : Int)], mutS sm n2, ?_, by simp; omega, g.1, fun b hb => ?_⟩
        · rw [List.length_map]
          exact Nat.lt_of_lt_of_le (show ys.length < 100 by omega) (by decide)
        · rw [upd_same, List.map_append]
          rfl
        · have := g.2 b hb
          omega
      · exact ⟨ys, sm, hp, by omega, h1, fun b hb => by have := h2 b hb; omega⟩
    rintro H2 ⟨ss, e2, hs, ls, gs1, gs2⟩
    have gs : Good 0 ss := ⟨gs1, fun b h => by have := gs2 b h; omega, by omega⟩
    have hb2 := getS e2 hb
    have e02 := e1.trans e2
    -- if
    refine ⟨_, rfl, _, _, rfl, rfl, ⟨by decide, by decide⟩, _, _, rfl, rfl, (by k_offL), rfl, _, rfl, ite2 (fun c => ?_) (fun c => ?_)⟩
    · refine ⟨by decide, fun a1 m1 => ?_⟩
      k_invariant "new" (m1, A1, ea1, h1)
      refine ⟨by decide, fun a2 m2 => ?_⟩
      k_invariant "new" (m2, A2, ea2, h2)
      refine ⟨by decide, fun a3 m3 => ?_⟩
      k_invariant "new" (m3, A3, ea3, h3)
      refine ⟨by decide, fun a4 m4 => ?_⟩
      k_invariant "new" (m4, A4, ea4, h4)
      refine ⟨by decide, fun a5 m5 => ?_⟩
      k_invariant "new" (m5, A5, ea5, h5)
      refine ⟨by k_clsL, fun a6 m6 => ?_⟩
      k_invariant "new" (m6, A6, ea6, h6)
      have pick : ∃ (pb : Addr) (l : List Int), atI [V.ref a1, .ref a2, .ref a3, .ref a4, .ref a5] (x / 786432 % 5) = some (.ref pb) ∧ A6 pb = some (.lst (l.map V.int)) ∧ Good 1 l := by
        have z0 := Int.emod_nonneg (x / 786432) (show (5 : Int) ≠ 0 by decide)
        have z1 := Int.emod_lt_of_pos (x / 786432) (show (0 : Int) < 5 by decide)
        generalize x / 786432 % 5 = j at z0 z1
        have : j = 0 ∨ j = 1 ∨ j = 2 ∨ j = 3 ∨ j = 4 := by omega
        rcases this with rfl | rfl | rfl | rfl | rfl
        · exact ⟨a1, [3], rfl, by k_subL, by unfold Good; decide⟩
        · exact ⟨a2, [3, 6], rfl, by k_subL, by unfold Good; decide⟩
        · exact ⟨a3, [2], rfl, by k_subL, by unfold Good; decide⟩
        · exact ⟨a4, [3, 7, 8], rfl, by k_subL, by unfold Good; decide⟩
        · exact ⟨a5, [2, 5], rfl, by k_subL, by unfold Good; decide⟩
      obtain ⟨pb, l, hpk, hl, gl⟩ := pick
      refine ⟨_, rfl, _, _, rfl, rfl, ⟨by decide, by decide⟩, _, _, rfl, rfl, (by k_offL), _, _, _, _, rfl, rfl, by k_subL, hpk, ?_⟩
      refine ⟨by decide, fun b1 m1 => ?_⟩
      k_invariant "new" (m1, B1, eb1, h1)
      refine ⟨by decide, fun b2 m2 => ?_⟩
      k_invariant "new" (m2, B2, eb2, h2)
      refine ⟨by decide, fun b3 m3 => ?_⟩
      k_invariant "new" (m3, B3, eb3, h3)
      refine ⟨by decide, fun b4 m4 => ?_⟩
      k_invariant "new" (m4, B4, eb4, h4)
      refine ⟨by decide, fun b5 m5 => ?_⟩
      k_invariant "new" (m5, B5, eb5, h5)
      refine ⟨by k_clsL, fun b6 m6 => ?_⟩
      k_invariant "new" (m6, B6, eb6, h6)
      have pick : ∃ (pb : Addr) (l : List Int), atI [V.ref b1, .ref b2, .ref b3, .ref b4, .ref b5] (x / 3932160 % 5) = some (.ref pb) ∧ B6 pb = some (.lst (l.map V.int)) ∧ Good 0 l := by
        have z0 := Int.emod_nonneg (x / 3932160) (show (5 : Int) ≠ 0 by decide)
        have z1 := Int.emod_lt_of_pos (x / 3932160) (show (0 : Int) < 5 by decide)
        generalize x / 3932160 % 5 = j at z0 z1
        have : j = 0 ∨ j = 1 ∨ j = 2 ∨ j = 3 ∨ j = 4 := by omega
        rcases this with rfl | rfl | rfl | rfl | rfl
        · exact ⟨b1, [2, 3], rfl, by k_subL, by unfold Good; decide⟩
        · exact ⟨b2, [2, 3], rfl, by k_subL, by unfold Good; decide⟩
        · exact ⟨b3, [], rfl, by k_subL, by unfold Good; decide⟩
        · exact ⟨b4, [2, 3, 4, 5], rfl, by k_subL, by unfold Good; decide⟩
        · exact ⟨b5, [3, 4, 6], rfl, by k_subL, by unfold Good; decide⟩
      obtain ⟨ps, m, hpk2, hm, gm⟩ := pick
      refine ⟨_, rfl, _, _, rfl, rfl, ⟨by decide, by decide⟩, _, _, rfl, rfl, (by k_offL), _, _, _, _, rfl, rfl, by k_subL, hpk2, ?_⟩
      refine ⟨_, rfl, _, rfl, by k_clsL, fun r nr => ?_⟩
      k_invariant "new" (nr, R1, er, hr1)
      exact q R1 r pb ps l m (e02.trans (ea1.trans (ea2.trans (ea3.trans (ea4.trans (ea5.trans (ea6.trans (eb1.trans (eb2.trans (eb3.trans (eb4.trans (eb5.trans (eb6.trans er))))))))))))) hr1 (by k_subL) (by k_subL) gl gm
    · refine ⟨_, rfl, _, rfl, by k_clsL, fun r nr => ?_⟩
      k_invariant "new" (nr, R1, er, hr1)
      exact q R1 r p1 p2 bs ss (e02.trans er) hr1 (by k_subL) (by k_subL) gb gs
end
end My
namespace My
open PySem PySem.Spec PyProof.Rows L2 Vx
open TL
local macro_rules | `(tactic| k_invariant "new" ($n, $H:ident, $e:ident, $h:ident)) => `(tactic| (generalize hE : upd _ _ _ = $H; obtain ⟨$e:ident, $h:ident⟩ := gen_e hE $n; clear hE))
local macro_rules | `(tactic| k_places) => `(tactic| first
  | assumption
  | exact lst_of (by assumption)
  | exact tup_of (by assumption)
  | (refine getS (by assumption) ?_; k_places)
  | (refine Same.seq (by assumption) ?_; k_places)
  | (refine tupS (by assumption) ?_; k_places)
  | (refine lst_of ?_; k_places)
  | (refine tup_of ?_; k_places))
local macro_rules | `(tactic| k_subL) => `(tactic| first
  | k_places
  | solve_by_elim (maxDepth := 10) [getS, lst_of, tup_of, Same.seq, tupS])
local macro_rules | `(tactic| k_offL) => `(tactic| first
  | (show (0 : Int) < _; first | omega | decide)
  | (refine ⟨?_, ?_⟩ <;> first | omega | decide)
  | exact .inr ⟨by decide, by decide⟩
  | exact .inl ⟨by decide, by decide⟩
  | exact .inl ⟨by omega, by omega⟩
  | omega)
local macro_rules | `(tactic| k_clsL) => `(tactic| exact Nat.le_of_ble_eq_true rfl)
local macro_rules | `(tactic| k_upd) => `(tactic| simp only [L2.start, List.map_cons, List.map_nil, List.length_cons, List.length_nil, List.replicate_succ, List.replicate_zero, List.cons_append, List.nil_append, List.set_cons_zero, List.set_cons_succ])
section
variable {P : Program} {w : World} {K : PySem.W.Frag} {mg : Str → Option Value} {base : Heap}
/-! ### the law -/
theorem Sb3.wat {C W D al X ru S Dx : Addr} {gen : Int} {H H' : Hp} (h : WAt C H X gen ru S Dx) (e : Sb3 W D al H H') (n1 : X ≠ W) (n2 : X ≠ D) (n3 : X ≠ al) : WAt C H' X gen ru S Dx := by
  obtain ⟨dx, h⟩ := h
  exact ⟨dx, e _ _ n1 n2 n3 h⟩
theorem Sb3.liv {W D al Dx : Addr} {H H' : Hp} {ks : List Pr} {g : Pr → Nat} (h : LivIs H Dx ks g) (e : Sb3 W D al H H') (n1 : Dx ≠ W) (n2 : Dx ≠ D) (n3 : Dx ≠ al) : LivIs H' Dx ks g := by
  obtain ⟨⟨kvs, h1, h2⟩, h3, h4⟩ := h
  exact ⟨⟨kvs, e _ _ n1 n2 n3 h1, h2⟩, h3, h4⟩
def sp_law (K : PySem.W.Frag) : Sp := fun vs H Q _ => ∃ (a : Addr) (ns : List Int), vs = [.ref a] ∧ SqL K H a (ns.map V.int) ∧ ns.length ≤ 63 ∧ ∀ H', Q (.bl true) H'
theorem ok_law (T : Txt K mg) : FnOk P w K mg base CX0 10 T.f_law T.d_law ["script"] (sp_law K) := by
  refine T.F_law.ok sc_law (fun vs H Q E h => ?_) (fun cdv A outer s H vs Q E hr h => ?_)
  · obtain ⟨a, ns, rfl, _⟩ := h
    rfl
  · obtain ⟨a, ns, rfl, hS, hlen, q⟩ := h
    refine ⟨_, (pss_cons (ps_asg (pe_call (ok_law_numbers T) (hr.mono (by decide)) (by rfl) T.g_law_numbers T.F_law_numbers.kp T.b_law_numbers .nil pass0 (pa_cons (pe_call (ok_law_cell T) (hr.mono (by decide)) (by rfl) T.g_law_cell T.F_law_cell.kp T.b_law_cell .nil pass0 (pa_cons (pv 0) (pa_cons pe_int pa_nil))) pa_nil)) (pg_tupK (K := K) (n := 2) rfl rfl (pgs_cons (pg_name (i := 1) sc_law.nd rfl (.inl rfl)) (pgs_cons (pg_name (i := 2) sc_law.nd rfl (.inl rfl)) pgs_nil))))
      (pss_cons (ps_set (i := 3) sc_law.nd rfl (.inl rfl) (pe_make T.M_World (ok_World_init T) (hr.mono (by decide)) rfl T.g_World T.b_World_init .nil pass0 (pa_cons (pe_make T.M_Rule (ok_Rule_init T) (hr.mono (by decide)) rfl T.g_Rule T.b_Rule_init .nil pass0 (pa_cons (pv 1) (pa_cons (pv 2) pa_nil))) pa_nil)))
      (pss_cons (ps_set (i := 4) sc_law.nd rfl (.inl rfl) (pe_make T.M_World (ok_World_init T) (hr.mono (by decide)) rfl T.g_World T.b_World_init .nil pass0 (pa_cons (pe_make T.M_Rule (ok_Rule_init T) (hr.mono (by decide)) rfl T.g_Rule T.b_Rule_init .nil pass0 (pa_cons (pv 1) (pa_cons (pv 2) pa_nil))) pa_nil)))
      (pss_cons (ps_set (i := 5) sc_law.nd rfl (.inl rfl) pe_dnewT)
      (pss_cons (ps_if (pt_not (pt_val (pe_call (ok_law_shows T) (hr.mono (by decide)) (by rfl) T.g_law_shows T.F_law_shows.kp T.b_law_shows .nil pass0 (pa_cons (pv 3) (pa_cons (pe_lst pa_nil) (pa_cons (pe_call (ok_law_cell T) (hr.mono (by decide)) (by rfl) T.g_law_cell T.F_law_cell.kp T.b_law_cell .nil pass0 (pa_cons (pv 0) (pa_cons pe_int pa_nil))) pa_nil))))))
      (pss_one (ps_ret pe_bl))
      pss_nil)
      (pss_cons (ps_for PassesOwn.never rfl (pi_list (pe_slice sl_list (pv 0) (po_some pe_int) (po_some pe_int))) (pg_name (i := 6) sc_law.nd rfl (.inl rfl))
      (pss_cons (ps_if (pt_not (pt_val (pe_call (ok_law_edit T) (hr.mono (by decide)) (by rfl) T.g_law_edit T.F_law_edit.kp T.b_law_edit .nil pass0 (pa_cons (pv 3) (pa_cons (pv 5) (pa_cons (pe_callB call_abs (by rfl) T.z_abs (by decide +kernel) (pa_cons (pe_callTy call_intI (by rfl) T.z_int (by decide +kernel) (pa_cons (pv 6) pa_nil)) pa_nil)) pa_nil))))))
      (pss_one (ps_ret pe_bl))
      pss_nil)
      (pss_one (ps_if (PW.pt (pw_or (pt_not (pt_val (pe_call (ok_law_shows T) (hr.mono (by decide)) (by rfl) T.g_law_shows T.F_law_shows.kp T.b_law_shows .nil pass0 (pa_cons (pv 3) (pa_cons (pe_call (ok_law_living T) (hr.mono (by decide)) (by rfl) T.g_law_living T.F_law_living.kp T.b_law_living .nil pass0 (pa_cons (pv 5) pa_nil)) (pa_cons (pe_op op_fdiv (pe_callB call_abs (by rfl) T.z_abs (by decide +kernel) (pa_cons (pe_callTy call_intI (by rfl) T.z_int (by decide +kernel) (pa_cons (pv 6) pa_nil)) pa_nil)) pe_int) pa_nil)))))) (pw_or1 (pt_cmpR op_ne (pe_fld (pv 3) rfl) pe_int (nomark _)))))
      (pss_one (ps_ret pe_bl))
      pss_nil))))
      (pss_one (ps_ret (pe_and (pe_cmpR (op_eqD hr.units) (pe_meth0 (pv 4) T.cl_World T.m_World_cells (ok_World_cells T) (hr.mono (by decide)) T.b_World_cells .nil pass0) (pe_lst pa_nil) (nomark _)) (pe_one (pe_cmpR op_eq (pe_meth0 (pv 4) T.cl_World T.m_World_count (ok_World_count T) (hr.mono (by decide)) T.b_World_count .nil pass0) pe_int (nomark _)))))))))))), ?_⟩
    k_upd
    refine ⟨_, rfl, a, ns, 0, rfl, hS, ?_⟩
    generalize cellOf ns 0 = z0
    refine ⟨z0, rfl, fun H1 p1 pb pss bs ss e1 g1 gb gs' good1 good0 => ?_⟩
    refine ⟨p1, _, rfl, tup_of g1, rfl, _, _, rfl, _, _, rfl, rfl, ?_⟩
    k_upd
    refine ⟨_, rfl, _, rfl, ?_⟩
    intro r dx nx nd nex
    refine ⟨H1, r, pb, pss, dx, bs, ss, rfl, madeS nx nd, nx, upd_same, lst_of gb, lst_of gs', by have := good1.2.2; omega, by have := good0.2.2; omega, fun H2 bs' ss' e2 ra c1 c2 => ⟨rfl, ?_⟩⟩
    intro W dx2 nW ndW neW
    refine ⟨H2, W, r, dx2, rfl, madeS nW ndW, nW, upd_same, fun H3 S D e3 nD nDW hW hL => ⟨rfl, ?_⟩⟩
    k_upd
    have s3 := e1.trans (e2.trans e3)
    have gb3 := e3 _ _ (e2 _ _ gb)
    have gs3 := e3 _ _ (e2 _ _ gs')
    refine ⟨_, rfl, _, rfl, ?_⟩
    intro r2 dx3 nx3 nd3 nex3
    refine ⟨H3, r2, pb, pss, dx3, bs, ss, rfl, madeS nx3 nd3, nx3, upd_same, lst_of gb3, lst_of gs3, by have := good1.2.2; omega, by have := good0.2.2; omega, fun H4 bs2 ss2 e4 ra2 c3 c4 => ⟨rfl, ?_⟩⟩
    intro W2 dx4 nW2 ndW2 neW2
    refine ⟨H4, W2, r2, dx4, rfl, madeS nW2 ndW2, nW2, upd_same, fun H5 S2 D2 e5 nD2 nDW2 hW2 hL2 => ⟨rfl, ?_⟩⟩
    k_upd
    have hW5 := (hW.up e4).up e5
    have hL5 := (hL.up e4).up e5
    refine fun al nal => ?_
    k_invariant "new" (nal, H6, e6, g6)
    k_upd
    have hW6 := hW5.up e6
    have hL6 := hL5.up e6
    have hW26 := hW2.up e6
    have hL26 := hL2.up e6
    obtain ⟨dw, gw⟩ := id hW5
    obtain ⟨dw2, gw2⟩ := id hW2
    obtain ⟨kv, gd, _⟩ := id hL5.dct
    obtain ⟨kv2, gd2, _⟩ := id hL2.dct
    have gw4 : ∃ o, H4 W = some o := by
      obtain ⟨d9, h9⟩ := hW.up e4
      exact ⟨_, h9⟩
    have gd4 : ∃ o, H4 D = some o := by
      obtain ⟨⟨k9, h9, _⟩, _, _⟩ := hL.up e4
      exact ⟨_, h9⟩
    have nWW2 : W2 ≠ W := fun e => by obtain ⟨o, h⟩ := gw4; rw [← e, nW2] at h; cases h
    have nDW2' : W2 ≠ D := fun e => by obtain ⟨o, h⟩ := gd4; rw [← e, nW2] at h; cases h
    have nD2W : D2 ≠ W := fun e => by obtain ⟨o, h⟩ := gw4; rw [← e, nD2] at h; cases h
    have nD2D : D2 ≠ D := fun e => by obtain ⟨o, h⟩ := gd4; rw [← e, nD2] at h; cases h
    have naW : al ≠ W := fun e => by rw [e, gw] at nal; cases nal
    have naW2 : al ≠ W2 := fun e => by rw [e, gw2] at nal; cases nal
    have naD : al ≠ D := fun e => by rw [e, gd] at nal; cases nal
    have naD2 : al ≠ D2 := fun e => by rw [e, gd2] at nal; cases nal
    have s6 : Same H H6 := s3.trans (e4.trans (e5.trans e6))
    have hA6 : AlIs H6 al [] (fun _ => false) := ⟨Dct.new _ g6, fun _ _ => rfl⟩
    have hW0 : H W = none := backS (e1.trans e2) nW
    have hD0 : H D = none := backS (e1.trans e2) nD
    have ha0 : H al = none := backS (s3.trans (e4.trans e5)) nal
    have abs0 : ∀ z : Int, 0 ≤ (if z < 0 then -z else z) := fun z => by split <;> omega
    -- the empty world
    refine ⟨_, rfl, (by k_clsL), fun pe ne => ?_⟩
    k_invariant "new" (ne, H7, e7, g7)
    have s7 := s6.trans e7
    refine ⟨_, rfl, a, ns, 1, rfl, s7.seq hS, ?_⟩
    refine ⟨W, r, S, D, pe, 0, [], _, [], cellOf ns 1, rfl, hW6.up e7, hL6.up e7, by decide, ⟨[], g7, fun _ m => (by cases m), rfl⟩, List.Pairwise.nil, fun y => ?_, by decide, fun _ m => (by cases m), fun H8 e8 => ⟨_, rfl, iteF ?_⟩⟩
    · unfold inB
      rw [Nat.zero_testBit]
      exact ⟨fun m => (by cases m), fun z => (by cases z)⟩
    have s8 := s7.trans e8
    have e68 := e7.trans e8
    refine ⟨_, rfl, _, rfl, _, rfl, _, _, rfl, s8.seq hS, fun ps nps => ?_⟩
    have ecut : ∃ ms : List Int, cutV (ns.map V.int) (some 1) (some 25) = ms.map V.int ∧ ms.length ≤ 24 := by
      have k1 : HT.sIx (ns.map V.int).length 0 (some 1) = min 1 (ns.map V.int).length := rfl
      have k2 : HT.sIx (ns.map V.int).length (ns.map V.int).length (some 25) = min 25 (ns.map V.int).length := rfl
      refine ⟨(ns.drop (min 1 (ns.map V.int).length)).take (min 25 (ns.map V.int).length - min 1 (ns.map V.int).length), ?_, ?_⟩
      · unfold cutV
        rw [k1, k2, List.map_take, List.map_drop]
      · rw [List.length_take]
        omega
    obtain ⟨ms, ems, lms⟩ := ecut
    rw [ems]
    k_invariant "new" (nps, H9, e9, g9)
    have s9 := s8.trans e9
    have e69 := e68.trans e9
    have nps0 : H ps = none := backS s8 nps
    have psn : ∀ X, (∃ o, H8 X = some o) → ps ≠ X := fun X h e => by
      obtain ⟨o, h⟩ := h
      rw [← e, nps] at h
      cases h
    refine ⟨ps, rfl, ⟨_, lst_of g9⟩, for_list (K := K) (a := ps) (xs := ms.map V.int) (fun i σ H' => Sb3 W D al H9 H' ∧ (∃ v6 : Option V, σ = [some (.ref a), some (.ref pb), some (.ref pss), some (.ref W), some (.ref W2), some (.ref al), v6]) ∧
        ∃ (S' : Addr) (ks : List Pr) (g : Pr → Nat) (aks : List Pr) (Al : Pr → Bool), WAt T.C_World H' W 0 r S' D ∧ LivIs H' D ks g ∧ AlIs H' al aks Al ∧ (∀ y, inB g y = Al y) ∧ ks.length ≤ 20 * i ∧ aks.length ≤ 20 * i ∧ ∀ y ∈ aks, Near y)
      ⟨Sb3.ofS (Same.refl _), ⟨_, rfl⟩, S, [], _, [], _, hW6.up e69, hL6.up e69, hA6.up e69, fun y => by unfold inB; rw [Nat.zero_testBit], Nat.le_refl _, Nat.le_refl _, fun _ m => (by cases m)⟩ (fun i σ H' _ p => lst_of (p.1 _ _ (psn W ?_) (psn D ?_) (psn al ?_) g9)) ?_ ?_⟩
    · obtain ⟨d9, h9⟩ := hW6.up e68
      exact ⟨_, h9⟩
    · obtain ⟨⟨k9, h9, _⟩, _, _⟩ := hL6.up e68
      exact ⟨_, h9⟩
    · obtain ⟨⟨k9, h9, _⟩, _⟩ := hA6.up e68
      exact ⟨_, h9⟩
    · rintro i v σ H' hi ⟨sb, ⟨v6, rfl⟩, S', ks, g, aks, Al, hW', hL', hA', link, lk, la, near⟩
      obtain ⟨n, rfl, _, mn⟩ := item_ints hi
      have li : i < ms.length := by
        have := (List.getElem?_eq_some_iff.mp hi).1
        rwa [List.length_map] at this
      refine ⟨_, rfl, _, rfl, _, rfl, n, rfl, _, rfl, ?_⟩
      refine ⟨W, r, S', D, al, 0, ks, g, aks, Al, _, rfl, abs0 n, hW', hL', hA', nDW.symm, naD, naW, link, by omega, by omega, fun H2 S2' ks2 g2 aks2 Al2 sb2 hWn hLn hAn link2 lk2 la2 near2 => ⟨_, rfl, iteF ?_⟩⟩
      refine ⟨_, rfl, _, rfl, al, aks2, Al2, rfl, hAn, by omega, fun H3 p3 qs n3 e3 h3 pw3 mem3 l3 => ?_⟩
      refine ⟨_, rfl, n, rfl, _, rfl, _, _, rfl, rfl, (by k_offL), ?_⟩
      have nearq : ∀ y ∈ qs, Near y := fun y m => by
        have ya : y ∈ aks2 := Classical.byContradiction fun no => by
          have := hAn.off y no
          rw [(mem3 y).mp m] at this
          cases this
        exact (near2 y ya).elim (near y) id
      refine ⟨W, r, S2', D, p3, 0, ks2, g2, qs, _, rfl, hWn.up e3, hLn.up e3, by omega, h3, pw3, fun y => by rw [link2]; exact mem3 y, by omega, fun y m => ?_, fun H4 e4 => ⟨_, rfl, iteF ?_⟩⟩
      · obtain ⟨a1, a2⟩ := nearq y m
        omega
      have e34 := e3.trans e4
      obtain ⟨dq, gq⟩ := hWn.up e34
      refine ⟨_, rfl, W, _, _, _, _, rfl, gq, T.cl_World, T.na_World_generation, rfl, rfl, _, rfl, iteF ?_⟩
      exact ⟨(sb.trans sb2).trans (Sb3.ofS e34), ⟨_, rfl⟩, S2', ks2, g2, aks2, Al2, hWn.up e34, hLn.up e34, hAn.up e34, link2, by omega, by omega, fun y m => (near2 y m).elim (near y) id⟩
    · rintro σ H' ⟨sb, ⟨v6, rfl⟩, S', ks, g, aks, Al, hW', hL', hA', link, lk, la, near⟩
      have hW2' := Sb3.wat (hW26.up e69) sb nWW2 nDW2' naW2.symm
      have hL2' := Sb3.liv (hL26.up e69) sb nD2W nD2D naD2.symm
      obtain ⟨dz, gz⟩ := id hW2'
      refine ⟨_, rfl, W2, _, _, rfl, gz, rfl, W2, r2, S2, D2, 0, [], _, rfl, hW2', hL2', by decide, by decide, fun Hc pc qc nc ec hc pwc memc lenc => ?_⟩
      have qc0 : qc = [] := List.length_eq_zero_iff.mp lenc
      subst qc0
      refine ⟨(by k_clsL), fun pl nl => ?_⟩
      k_invariant "new" (nl, Hd, ed, gd')
      refine ⟨_, _, dp_cells (hc.up ed), dp_cells (ps := []) ⟨[], gd', fun _ m => (by cases m), rfl⟩, shaped_cells _, shaped_cells _, _, rfl, ?_⟩
      rw [eqv_cells, decide_eq_true rfl]
      refine iteT ?_
      have hWd := (hW2'.up ec).up ed
      have hLd := (hL2'.up ec).up ed
      obtain ⟨dy, gy⟩ := id hWd
      refine ⟨_, rfl, W2, _, _, rfl, gy, rfl, W2, r2, S2, D2, 0, [], _, rfl, hWd, hLd, by decide, fun He ee => ?_⟩
      exact ⟨rfl, q He⟩
end
end My
namespace My
open PySem PySem.Spec PyProof.Rows L2 Vx
theorem all_mk {l : PySem.W.OpenLaw} {w : World} {K : PySem.W.Frag} {h : Heap} {mg : Str → Option Value} {fa : Addr} (X : K.In h) (G : h.Ns mainGlobals mg) (hfa : mg "law" = some (.ref fa))
    {C_Blocks : Addr}
    {C_Store : Addr}
    {C_World : Addr}
    {C_Rule : Addr}
    {f_place_of : Addr} {odplace_of anplace_of : Option Addr} {slplace_of : Array (Option Value)} {ocplace_of kVplace_of dcplace_of pmplace_of cdplace_of ctplace_of : Value}
    {f_blocks_of : Addr} {odblocks_of anblocks_of : Option Addr} {slblocks_of : Array (Option Value)} {ocblocks_of kVblocks_of dcblocks_of pmblocks_of cdblocks_of ctblocks_of : Value}
    {f_block_cells : Addr} {odblock_cells anblock_cells : Option Addr} {slblock_cells : Array (Option Value)} {ocblock_cells kVblock_cells dcblock_cells pmblock_cells cdblock_cells ctblock_cells : Value}
    {f_block_count : Addr} {odblock_count anblock_count : Option Addr} {slblock_count : Array (Option Value)} {ocblock_count kVblock_count dcblock_count pmblock_count cdblock_count ctblock_count : Value}
    {f_block_changed : Addr} {odblock_changed anblock_changed : Option Addr} {slblock_changed : Array (Option Value)} {ocblock_changed kVblock_changed dcblock_changed pmblock_changed cdblock_changed ctblock_changed : Value}
    {f_Blocks_init : Addr} {odBlocks_init anBlocks_init : Option Addr} {slBlocks_init : Array (Option Value)} {ocBlocks_init kVBlocks_init dcBlocks_init pmBlocks_init cdBlocks_init ctBlocks_init : Value}
    {f_full_block : Addr} {odfull_block anfull_block : Option Addr} {slfull_block : Array (Option Value)} {ocfull_block kVfull_block dcfull_block pmfull_block cdfull_block ctfull_block : Value}
    {f_Store_init : Addr} {odStore_init anStore_init : Option Addr} {slStore_init : Array (Option Value)} {ocStore_init kVStore_init dcStore_init pmStore_init cdStore_init ctStore_init : Value}
    {f_Store_small : Addr} {odStore_small anStore_small : Option Addr} {slStore_small : Array (Option Value)} {ocStore_small kVStore_small dcStore_small pmStore_small cdStore_small ctStore_small : Value}
    {f_Store_new_square : Addr} {odStore_new_square anStore_new_square : Option Addr} {slStore_new_square : Array (Option Value)} {ocStore_new_square kVStore_new_square dcStore_new_square pmStore_new_square cdStore_new_square ctStore_new_square : Value}
    {f_World_init : Addr} {odWorld_init anWorld_init : Option Addr} {slWorld_init : Array (Option Value)} {ocWorld_init kVWorld_init dcWorld_init pmWorld_init cdWorld_init ctWorld_init : Value}
    {f_World_put : Addr} {odWorld_put anWorld_put : Option Addr} {slWorld_put : Array (Option Value)} {ocWorld_put kVWorld_put dcWorld_put pmWorld_put cdWorld_put ctWorld_put : Value}
    {f_World_paste : Addr} {odWorld_paste anWorld_paste : Option Addr} {slWorld_paste : Array (Option Value)} {ocWorld_paste kVWorld_paste dcWorld_paste pmWorld_paste cdWorld_paste ctWorld_paste : Value}
    {f_World_tidy : Addr} {odWorld_tidy anWorld_tidy : Option Addr} {slWorld_tidy : Array (Option Value)} {ocWorld_tidy kVWorld_tidy dcWorld_tidy pmWorld_tidy cdWorld_tidy ctWorld_tidy : Value}
    {f_World_alive : Addr} {odWorld_alive anWorld_alive : Option Addr} {slWorld_alive : Array (Option Value)} {ocWorld_alive kVWorld_alive dcWorld_alive pmWorld_alive cdWorld_alive ctWorld_alive : Value}
    {f_World_count : Addr} {odWorld_count anWorld_count : Option Addr} {slWorld_count : Array (Option Value)} {ocWorld_count kVWorld_count dcWorld_count pmWorld_count cdWorld_count ctWorld_count : Value}
    {f_World_cells : Addr} {odWorld_cells anWorld_cells : Option Addr} {slWorld_cells : Array (Option Value)} {ocWorld_cells kVWorld_cells dcWorld_cells pmWorld_cells cdWorld_cells ctWorld_cells : Value}
    {f_World_bounds : Addr} {odWorld_bounds anWorld_bounds : Option Addr} {slWorld_bounds : Array (Option Value)} {ocWorld_bounds kVWorld_bounds dcWorld_bounds pmWorld_bounds cdWorld_bounds ctWorld_bounds : Value}
    {f_World_window : Addr} {odWorld_window anWorld_window : Option Addr} {slWorld_window : Array (Option Value)} {ocWorld_window kVWorld_window dcWorld_window pmWorld_window cdWorld_window ctWorld_window : Value}
    {f_World_cells_of_blocks : Addr} {odWorld_cells_of_blocks anWorld_cells_of_blocks : Option Addr} {slWorld_cells_of_blocks : Array (Option Value)} {ocWorld_cells_of_blocks kVWorld_cells_of_blocks dcWorld_cells_of_blocks pmWorld_cells_of_blocks cdWorld_cells_of_blocks ctWorld_cells_of_blocks : Value}
    {f_Rule_init : Addr} {odRule_init anRule_init : Option Addr} {slRule_init : Array (Option Value)} {ocRule_init kVRule_init dcRule_init pmRule_init cdRule_init ctRule_init : Value}
    {f_law_cell : Addr} {odlaw_cell anlaw_cell : Option Addr} {sllaw_cell : Array (Option Value)} {oclaw_cell kVlaw_cell dclaw_cell pmlaw_cell cdlaw_cell ctlaw_cell : Value}
    {f_law_row : Addr} {odlaw_row anlaw_row : Option Addr} {sllaw_row : Array (Option Value)} {oclaw_row kVlaw_row dclaw_row pmlaw_row cdlaw_row ctlaw_row : Value}
    {f_law_integer : Addr} {odlaw_integer anlaw_integer : Option Addr} {sllaw_integer : Array (Option Value)} {oclaw_integer kVlaw_integer dclaw_integer pmlaw_integer cdlaw_integer ctlaw_integer : Value}
    {f_law_cells : Addr} {odlaw_cells anlaw_cells : Option Addr} {sllaw_cells : Array (Option Value)} {oclaw_cells kVlaw_cells dclaw_cells pmlaw_cells cdlaw_cells ctlaw_cells : Value}
    {f_law_numbers : Addr} {odlaw_numbers anlaw_numbers : Option Addr} {sllaw_numbers : Array (Option Value)} {oclaw_numbers kVlaw_numbers dclaw_numbers pmlaw_numbers cdlaw_numbers ctlaw_numbers : Value}
    {f_law_some : Addr} {odlaw_some anlaw_some : Option Addr} {sllaw_some : Array (Option Value)} {oclaw_some kVlaw_some dclaw_some pmlaw_some cdlaw_some ctlaw_some : Value}
    {f_law_edit : Addr} {odlaw_edit anlaw_edit : Option Addr} {sllaw_edit : Array (Option Value)} {oclaw_edit kVlaw_edit dclaw_edit pmlaw_edit cdlaw_edit ctlaw_edit : Value}
    {f_law_living : Addr} {odlaw_living anlaw_living : Option Addr} {sllaw_living : Array (Option Value)} {oclaw_living kVlaw_living dclaw_living pmlaw_living cdlaw_living ctlaw_living : Value}
    {f_law_shows : Addr} {odlaw_shows anlaw_shows : Option Addr} {sllaw_shows : Array (Option Value)} {oclaw_shows kVlaw_shows dclaw_shows pmlaw_shows cdlaw_shows ctlaw_shows : Value}
    {f_law : Addr} {odlaw anlaw : Option Addr} {sllaw : Array (Option Value)} {oclaw kVlaw dclaw pmlaw cdlaw ctlaw : Value}
    {uSIDE : Tok}
    {uTOP : Tok}
    {uALIVE : Tok}
    {uDEAD : Tok}
    (aCBlocks : PySem.W.nsIn K mainGlobals "Blocks" = some (some (.ref C_Blocks)))
    (pgBlocks : PySem.W.plainGet K C_Blocks Str.empty = true)
    (hdBlocks : PySem.W.hasDictIn K C_Blocks = true)
    (poBlocks : PySem.W.plainOver K C_Blocks = true)
    (saBlocks : PySem.W.findIn K (.ref C_Blocks) "__setattr__" = some (some (.builtin "object.__setattr__")))
    (mkBlocks : PySem.W.makesIn K C_Blocks = true)
    (kcBlocks : PySem.W.keepIn K (.ref C_Blocks) = true)
    (nBlocks_rule : PySem.W.findIn K (.ref C_Blocks) "_rule" = some none)
    (nBlocks_full : PySem.W.findIn K (.ref C_Blocks) "_full" = some none)
    (aCStore : PySem.W.nsIn K mainGlobals "Store" = some (some (.ref C_Store)))
    (pgStore : PySem.W.plainGet K C_Store Str.empty = true)
    (hdStore : PySem.W.hasDictIn K C_Store = true)
    (poStore : PySem.W.plainOver K C_Store = true)
    (saStore : PySem.W.findIn K (.ref C_Store) "__setattr__" = some (some (.builtin "object.__setattr__")))
    (mkStore : PySem.W.makesIn K C_Store = true)
    (kcStore : PySem.W.keepIn K (.ref C_Store) = true)
    (nStore_rule : PySem.W.findIn K (.ref C_Store) "_rule" = some none)
    (nStore_blocks : PySem.W.findIn K (.ref C_Store) "_blocks" = some none)
    (nStore_levels : PySem.W.findIn K (.ref C_Store) "_levels" = some none)
    (nStore_counts : PySem.W.findIn K (.ref C_Store) "_counts" = some none)
    (nStore_bits : PySem.W.findIn K (.ref C_Store) "_bits" = some none)
    (nStore_parts : PySem.W.findIn K (.ref C_Store) "_parts" = some none)
    (nStore_small : PySem.W.findIn K (.ref C_Store) "_small" = some none)
    (nStore_large : PySem.W.findIn K (.ref C_Store) "_large" = some none)
    (nStore_empty : PySem.W.findIn K (.ref C_Store) "_empty" = some none)
    (nStore_futures : PySem.W.findIn K (.ref C_Store) "_futures" = some none)
    (aCWorld : PySem.W.nsIn K mainGlobals "World" = some (some (.ref C_World)))
    (pgWorld : PySem.W.plainGet K C_World Str.empty = true)
    (hdWorld : PySem.W.hasDictIn K C_World = true)
    (poWorld : PySem.W.plainOver K C_World = true)
    (saWorld : PySem.W.findIn K (.ref C_World) "__setattr__" = some (some (.builtin "object.__setattr__")))
    (mkWorld : PySem.W.makesIn K C_World = true)
    (kcWorld : PySem.W.keepIn K (.ref C_World) = true)
    (nWorldgeneration : PySem.W.findIn K (.ref C_World) "generation" = some none)
    (nWorld_rule : PySem.W.findIn K (.ref C_World) "_rule" = some none)
    (nWorld_store : PySem.W.findIn K (.ref C_World) "_store" = some none)
    (nWorld_living : PySem.W.findIn K (.ref C_World) "_living" = some none)
    (aCRule : PySem.W.nsIn K mainGlobals "Rule" = some (some (.ref C_Rule)))
    (pgRule : PySem.W.plainGet K C_Rule Str.empty = true)
    (hdRule : PySem.W.hasDictIn K C_Rule = true)
    (poRule : PySem.W.plainOver K C_Rule = true)
    (saRule : PySem.W.findIn K (.ref C_Rule) "__setattr__" = some (some (.builtin "object.__setattr__")))
    (mkRule : PySem.W.makesIn K C_Rule = true)
    (kcRule : PySem.W.keepIn K (.ref C_Rule) = true)
    (nRulebirths : PySem.W.findIn K (.ref C_Rule) "births" = some none)
    (nRulesurvival : PySem.W.findIn K (.ref C_Rule) "survival" = some none)
    (aplace_of : PySem.W.nsIn K mainGlobals "place_of" = some (some (.ref f_place_of)))
    (lplace_of : K.lookup f_place_of = some ⟨ocplace_of, odplace_of, .func (PySem.W.fnOf "place_of" "place_of" (defArgs s_place_of) (defBody s_place_of) (defScope s_place_of) .none kVplace_of dcplace_of pmplace_of anplace_of cdplace_of ctplace_of), slplace_of⟩)
    (cplace_of : PySem.W.codeIn K cdplace_of "place_of" = true)
    (kplace_of : PySem.W.keepIn K (.ref f_place_of) = true)
    (ablocks_of : PySem.W.nsIn K mainGlobals "blocks_of" = some (some (.ref f_blocks_of)))
    (lblocks_of : K.lookup f_blocks_of = some ⟨ocblocks_of, odblocks_of, .func (PySem.W.fnOf "blocks_of" "blocks_of" (defArgs s_blocks_of) (defBody s_blocks_of) (defScope s_blocks_of) .none kVblocks_of dcblocks_of pmblocks_of anblocks_of cdblocks_of ctblocks_of), slblocks_of⟩)
    (cblocks_of : PySem.W.codeIn K cdblocks_of "blocks_of" = true)
    (kblocks_of : PySem.W.keepIn K (.ref f_blocks_of) = true)
    (ablock_cells : PySem.W.nsIn K mainGlobals "block_cells" = some (some (.ref f_block_cells)))
    (lblock_cells : K.lookup f_block_cells = some ⟨ocblock_cells, odblock_cells, .func (PySem.W.fnOf "block_cells" "block_cells" (defArgs s_block_cells) (defBody s_block_cells) (defScope s_block_cells) .none kVblock_cells dcblock_cells pmblock_cells anblock_cells cdblock_cells ctblock_cells), slblock_cells⟩)
    (cblock_cells : PySem.W.codeIn K cdblock_cells "block_cells" = true)
    (kblock_cells : PySem.W.keepIn K (.ref f_block_cells) = true)
    (ablock_count : PySem.W.nsIn K mainGlobals "block_count" = some (some (.ref f_block_count)))
    (lblock_count : K.lookup f_block_count = some ⟨ocblock_count, odblock_count, .func (PySem.W.fnOf "block_count" "block_count" (defArgs s_block_count) (defBody s_block_count) (defScope s_block_count) .none kVblock_count dcblock_count pmblock_count anblock_count cdblock_count ctblock_count), slblock_count⟩)
    (cblock_count : PySem.W.codeIn K cdblock_count "block_count" = true)
    (kblock_count : PySem.W.keepIn K (.ref f_block_count) = true)
    (ablock_changed : PySem.W.nsIn K mainGlobals "block_changed" = some (some (.ref f_block_changed)))
    (lblock_changed : K.lookup f_block_changed = some ⟨ocblock_changed, odblock_changed, .func (PySem.W.fnOf "block_changed" "block_changed" (defArgs s_block_changed) (defBody s_block_changed) (defScope s_block_changed) .none kVblock_changed dcblock_changed pmblock_changed anblock_changed cdblock_changed ctblock_changed), slblock_changed⟩)
    (cblock_changed : PySem.W.codeIn K cdblock_changed "block_changed" = true)
    (kblock_changed : PySem.W.keepIn K (.ref f_block_changed) = true)
    (aBlocks_init : PySem.W.findIn K (.ref C_Blocks) "__init__" = some (some (.ref f_Blocks_init)))
    (iBlocks_init : PySem.W.isFn K (.ref f_Blocks_init) = true)
    (lBlocks_init : K.lookup f_Blocks_init = some ⟨ocBlocks_init, odBlocks_init, .func (PySem.W.fnOf "__init__" "Blocks.__init__" (defArgs s_Blocks_init) (defBody s_Blocks_init) (defScope s_Blocks_init) .none kVBlocks_init dcBlocks_init pmBlocks_init anBlocks_init cdBlocks_init ctBlocks_init), slBlocks_init⟩)
    (cBlocks_init : PySem.W.codeIn K cdBlocks_init "Blocks.__init__" = true)
    (kBlocks_init : PySem.W.keepIn K (.ref f_Blocks_init) = true)
    (afull_block : PySem.W.nsIn K mainGlobals "_full_block" = some (some (.ref f_full_block)))
    (lfull_block : K.lookup f_full_block = some ⟨ocfull_block, odfull_block, .func (PySem.W.fnOf "_full_block" "_full_block" (defArgs s_full_block) (defBody s_full_block) (defScope s_full_block) .none kVfull_block dcfull_block pmfull_block anfull_block cdfull_block ctfull_block), slfull_block⟩)
    (cfull_block : PySem.W.codeIn K cdfull_block "_full_block" = true)
    (kfull_block : PySem.W.keepIn K (.ref f_full_block) = true)
    (aStore_init : PySem.W.findIn K (.ref C_Store) "__init__" = some (some (.ref f_Store_init)))
    (iStore_init : PySem.W.isFn K (.ref f_Store_init) = true)
    (lStore_init : K.lookup f_Store_init = some ⟨ocStore_init, odStore_init, .func (PySem.W.fnOf "__init__" "Store.__init__" (defArgs s_Store_init) (defBody s_Store_init) (defScope s_Store_init) .none kVStore_init dcStore_init pmStore_init anStore_init cdStore_init ctStore_init), slStore_init⟩)
    (cStore_init : PySem.W.codeIn K cdStore_init "Store.__init__" = true)
    (kStore_init : PySem.W.keepIn K (.ref f_Store_init) = true)
    (aStore_small : PySem.W.findIn K (.ref C_Store) "small" = some (some (.ref f_Store_small)))
    (iStore_small : PySem.W.isFn K (.ref f_Store_small) = true)
    (lStore_small : K.lookup f_Store_small = some ⟨ocStore_small, odStore_small, .func (PySem.W.fnOf "small" "Store.small" (defArgs s_Store_small) (defBody s_Store_small) (defScope s_Store_small) .none kVStore_small dcStore_small pmStore_small anStore_small cdStore_small ctStore_small), slStore_small⟩)
    (cStore_small : PySem.W.codeIn K cdStore_small "Store.small" = true)
    (kStore_small : PySem.W.keepIn K (.ref f_Store_small) = true)
    (aStore_new_square : PySem.W.findIn K (.ref C_Store) "_new_square" = some (some (.ref f_Store_new_square)))
    (iStore_new_square : PySem.W.isFn K (.ref f_Store_new_square) = true)
    (lStore_new_square : K.lookup f_Store_new_square = some ⟨ocStore_new_square, odStore_new_square, .func (PySem.W.fnOf "_new_square" "Store._new_square" (defArgs s_Store_new_square) (defBody s_Store_new_square) (defScope s_Store_new_square) .none kVStore_new_square dcStore_new_square pmStore_new_square anStore_new_square cdStore_new_square ctStore_new_square), slStore_new_square⟩)
    (cStore_new_square : PySem.W.codeIn K cdStore_new_square "Store._new_square" = true)
    (kStore_new_square : PySem.W.keepIn K (.ref f_Store_new_square) = true)
    (aWorld_init : PySem.W.findIn K (.ref C_World) "__init__" = some (some (.ref f_World_init)))
    (iWorld_init : PySem.W.isFn K (.ref f_World_init) = true)
    (lWorld_init : K.lookup f_World_init = some ⟨ocWorld_init, odWorld_init, .func (PySem.W.fnOf "__init__" "World.__init__" (defArgs s_World_init) (defBody s_World_init) (defScope s_World_init) .none kVWorld_init dcWorld_init pmWorld_init anWorld_init cdWorld_init ctWorld_init), slWorld_init⟩)
    (cWorld_init : PySem.W.codeIn K cdWorld_init "World.__init__" = true)
    (kWorld_init : PySem.W.keepIn K (.ref f_World_init) = true)
    (aWorld_put : PySem.W.findIn K (.ref C_World) "put" = some (some (.ref f_World_put)))
    (iWorld_put : PySem.W.isFn K (.ref f_World_put) = true)
    (lWorld_put : K.lookup f_World_put = some ⟨ocWorld_put, odWorld_put, .func (PySem.W.fnOf "put" "World.put" (defArgs s_World_put) (defBody s_World_put) (defScope s_World_put) .none kVWorld_put dcWorld_put pmWorld_put anWorld_put cdWorld_put ctWorld_put), slWorld_put⟩)
    (cWorld_put : PySem.W.codeIn K cdWorld_put "World.put" = true)
    (kWorld_put : PySem.W.keepIn K (.ref f_World_put) = true)
    (aWorld_paste : PySem.W.findIn K (.ref C_World) "paste" = some (some (.ref f_World_paste)))
    (iWorld_paste : PySem.W.isFn K (.ref f_World_paste) = true)
    (lWorld_paste : K.lookup f_World_paste = some ⟨ocWorld_paste, odWorld_paste, .func (PySem.W.fnOf "paste" "World.paste" (defArgs s_World_paste) (defBody s_World_paste) (defScope s_World_paste) .none kVWorld_paste dcWorld_paste pmWorld_paste anWorld_paste cdWorld_paste ctWorld_paste), slWorld_paste⟩)
    (cWorld_paste : PySem.W.codeIn K cdWorld_paste "World.paste" = true)
    (kWorld_paste : PySem.W.keepIn K (.ref f_World_paste) = true)
    (aWorld_tidy : PySem.W.findIn K (.ref C_World) "tidy" = some (some (.ref f_World_tidy)))
    (iWorld_tidy : PySem.W.isFn K (.ref f_World_tidy) = true)
    (lWorld_tidy : K.lookup f_World_tidy = some ⟨ocWorld_tidy, odWorld_tidy, .func (PySem.W.fnOf "tidy" "World.tidy" (defArgs s_World_tidy) (defBody s_World_tidy) (defScope s_World_tidy) .none kVWorld_tidy dcWorld_tidy pmWorld_tidy anWorld_tidy cdWorld_tidy ctWorld_tidy), slWorld_tidy⟩)
    (cWorld_tidy : PySem.W.codeIn K cdWorld_tidy "World.tidy" = true)
    (kWorld_tidy : PySem.W.keepIn K (.ref f_World_tidy) = true)
    (aWorld_alive : PySem.W.findIn K (.ref C_World) "alive" = some (some (.ref f_World_alive)))
    (iWorld_alive : PySem.W.isFn K (.ref f_World_alive) = true)
    (lWorld_alive : K.lookup f_World_alive = some ⟨ocWorld_alive, odWorld_alive, .func (PySem.W.fnOf "alive" "World.alive" (defArgs s_World_alive) (defBody s_World_alive) (defScope s_World_alive) .none kVWorld_alive dcWorld_alive pmWorld_alive anWorld_alive cdWorld_alive ctWorld_alive), slWorld_alive⟩)
    (cWorld_alive : PySem.W.codeIn K cdWorld_alive "World.alive" = true)
    (kWorld_alive : PySem.W.keepIn K (.ref f_World_alive) = true)
    (aWorld_count : PySem.W.findIn K (.ref C_World) "count" = some (some (.ref f_World_count)))
    (iWorld_count : PySem.W.isFn K (.ref f_World_count) = true)
    (lWorld_count : K.lookup f_World_count = some ⟨ocWorld_count, odWorld_count, .func (PySem.W.fnOf "count" "World.count" (defArgs s_World_count) (defBody s_World_count) (defScope s_World_count) .none kVWorld_count dcWorld_count pmWorld_count anWorld_count cdWorld_count ctWorld_count), slWorld_count⟩)
    (cWorld_count : PySem.W.codeIn K cdWorld_count "World.count" = true)
    (kWorld_count : PySem.W.keepIn K (.ref f_World_count) = true)
    (aWorld_cells : PySem.W.findIn K (.ref C_World) "cells" = some (some (.ref f_World_cells)))
    (iWorld_cells : PySem.W.isFn K (.ref f_World_cells) = true)
    (lWorld_cells : K.lookup f_World_cells = some ⟨ocWorld_cells, odWorld_cells, .func (PySem.W.fnOf "cells" "World.cells" (defArgs s_World_cells) (defBody s_World_cells) (defScope s_World_cells) .none kVWorld_cells dcWorld_cells pmWorld_cells anWorld_cells cdWorld_cells ctWorld_cells), slWorld_cells⟩)
    (cWorld_cells : PySem.W.codeIn K cdWorld_cells "World.cells" = true)
    (kWorld_cells : PySem.W.keepIn K (.ref f_World_cells) = true)
    (aWorld_bounds : PySem.W.findIn K (.ref C_World) "bounds" = some (some (.ref f_World_bounds)))
    (iWorld_bounds : PySem.W.isFn K (.ref f_World_bounds) = true)
    (lWorld_bounds : K.lookup f_World_bounds = some ⟨ocWorld_bounds, odWorld_bounds, .func (PySem.W.fnOf "bounds" "World.bounds" (defArgs s_World_bounds) (defBody s_World_bounds) (defScope s_World_bounds) .none kVWorld_bounds dcWorld_bounds pmWorld_bounds anWorld_bounds cdWorld_bounds ctWorld_bounds), slWorld_bounds⟩)
    (cWorld_bounds : PySem.W.codeIn K cdWorld_bounds "World.bounds" = true)
    (kWorld_bounds : PySem.W.keepIn K (.ref f_World_bounds) = true)
    (aWorld_window : PySem.W.findIn K (.ref C_World) "window" = some (some (.ref f_World_window)))
    (iWorld_window : PySem.W.isFn K (.ref f_World_window) = true)
    (lWorld_window : K.lookup f_World_window = some ⟨ocWorld_window, odWorld_window, .func (PySem.W.fnOf "window" "World.window" (defArgs s_World_window) (defBody s_World_window) (defScope s_World_window) .none kVWorld_window dcWorld_window pmWorld_window anWorld_window cdWorld_window ctWorld_window), slWorld_window⟩)
    (cWorld_window : PySem.W.codeIn K cdWorld_window "World.window" = true)
    (kWorld_window : PySem.W.keepIn K (.ref f_World_window) = true)
    (aWorld_cells_of_blocks : PySem.W.findIn K (.ref C_World) "_cells_of_blocks" = some (some (.ref f_World_cells_of_blocks)))
    (iWorld_cells_of_blocks : PySem.W.isFn K (.ref f_World_cells_of_blocks) = true)
    (lWorld_cells_of_blocks : K.lookup f_World_cells_of_blocks = some ⟨ocWorld_cells_of_blocks, odWorld_cells_of_blocks, .func (PySem.W.fnOf "_cells_of_blocks" "World._cells_of_blocks" (defArgs s_World_cells_of_blocks) (defBody s_World_cells_of_blocks) (defScope s_World_cells_of_blocks) .none kVWorld_cells_of_blocks dcWorld_cells_of_blocks pmWorld_cells_of_blocks anWorld_cells_of_blocks cdWorld_cells_of_blocks ctWorld_cells_of_blocks), slWorld_cells_of_blocks⟩)
    (cWorld_cells_of_blocks : PySem.W.codeIn K cdWorld_cells_of_blocks "World._cells_of_blocks" = true)
    (kWorld_cells_of_blocks : PySem.W.keepIn K (.ref f_World_cells_of_blocks) = true)
    (aRule_init : PySem.W.findIn K (.ref C_Rule) "__init__" = some (some (.ref f_Rule_init)))
    (iRule_init : PySem.W.isFn K (.ref f_Rule_init) = true)
    (lRule_init : K.lookup f_Rule_init = some ⟨ocRule_init, odRule_init, .func (PySem.W.fnOf "__init__" "Rule.__init__" (defArgs s_Rule_init) (defBody s_Rule_init) (defScope s_Rule_init) .none kVRule_init dcRule_init pmRule_init anRule_init cdRule_init ctRule_init), slRule_init⟩)
    (cRule_init : PySem.W.codeIn K cdRule_init "Rule.__init__" = true)
    (kRule_init : PySem.W.keepIn K (.ref f_Rule_init) = true)
    (alaw_cell : PySem.W.nsIn K mainGlobals "_law_cell" = some (some (.ref f_law_cell)))
    (llaw_cell : K.lookup f_law_cell = some ⟨oclaw_cell, odlaw_cell, .func (PySem.W.fnOf "_law_cell" "_law_cell" (defArgs s_law_cell) (defBody s_law_cell) (defScope s_law_cell) .none kVlaw_cell dclaw_cell pmlaw_cell anlaw_cell cdlaw_cell ctlaw_cell), sllaw_cell⟩)
    (claw_cell : PySem.W.codeIn K cdlaw_cell "_law_cell" = true)
    (klaw_cell : PySem.W.keepIn K (.ref f_law_cell) = true)
    (alaw_row : PySem.W.nsIn K mainGlobals "_law_row" = some (some (.ref f_law_row)))
    (llaw_row : K.lookup f_law_row = some ⟨oclaw_row, odlaw_row, .func (PySem.W.fnOf "_law_row" "_law_row" (defArgs s_law_row) (defBody s_law_row) (defScope s_law_row) .none kVlaw_row dclaw_row pmlaw_row anlaw_row cdlaw_row ctlaw_row), sllaw_row⟩)
    (claw_row : PySem.W.codeIn K cdlaw_row "_law_row" = true)
    (klaw_row : PySem.W.keepIn K (.ref f_law_row) = true)
    (alaw_integer : PySem.W.nsIn K mainGlobals "_law_integer" = some (some (.ref f_law_integer)))
    (llaw_integer : K.lookup f_law_integer = some ⟨oclaw_integer, odlaw_integer, .func (PySem.W.fnOf "_law_integer" "_law_integer" (defArgs s_law_integer) (defBody s_law_integer) (defScope s_law_integer) .none kVlaw_integer dclaw_integer pmlaw_integer anlaw_integer cdlaw_integer ctlaw_integer), sllaw_integer⟩)
    (claw_integer : PySem.W.codeIn K cdlaw_integer "_law_integer" = true)
    (klaw_integer : PySem.W.keepIn K (.ref f_law_integer) = true)
    (alaw_cells : PySem.W.nsIn K mainGlobals "_law_cells" = some (some (.ref f_law_cells)))
    (llaw_cells : K.lookup f_law_cells = some ⟨oclaw_cells, odlaw_cells, .func (PySem.W.fnOf "_law_cells" "_law_cells" (defArgs s_law_cells) (defBody s_law_cells) (defScope s_law_cells) .none kVlaw_cells dclaw_cells pmlaw_cells anlaw_cells cdlaw_cells ctlaw_cells), sllaw_cells⟩)
    (claw_cells : PySem.W.codeIn K cdlaw_cells "_law_cells" = true)
    (klaw_cells : PySem.W.keepIn K (.ref f_law_cells) = true)
    (alaw_numbers : PySem.W.nsIn K mainGlobals "_law_numbers" = some (some (.ref f_law_numbers)))
    (llaw_numbers : K.lookup f_law_numbers = some ⟨oclaw_numbers, odlaw_numbers, .func (PySem.W.fnOf "_law_numbers" "_law_numbers" (defArgs s_law_numbers) (defBody s_law_numbers) (defScope s_law_numbers) .none kVlaw_numbers dclaw_numbers pmlaw_numbers anlaw_numbers cdlaw_numbers ctlaw_numbers), sllaw_numbers⟩)
    (claw_numbers : PySem.W.codeIn K cdlaw_numbers "_law_numbers" = true)
    (klaw_numbers : PySem.W.keepIn K (.ref f_law_numbers) = true)
    (alaw_some : PySem.W.nsIn K mainGlobals "_law_some" = some (some (.ref f_law_some)))
    (llaw_some : K.lookup f_law_some = some ⟨oclaw_some, odlaw_some, .func (PySem.W.fnOf "_law_some" "_law_some" (defArgs s_law_some) (defBody s_law_some) (defScope s_law_some) .none kVlaw_some dclaw_some pmlaw_some anlaw_some cdlaw_some ctlaw_some), sllaw_some⟩)
    (claw_some : PySem.W.codeIn K cdlaw_some "_law_some" = true)
    (klaw_some : PySem.W.keepIn K (.ref f_law_some) = true)
    (alaw_edit : PySem.W.nsIn K mainGlobals "_law_edit" = some (some (.ref f_law_edit)))
    (llaw_edit : K.lookup f_law_edit = some ⟨oclaw_edit, odlaw_edit, .func (PySem.W.fnOf "_law_edit" "_law_edit" (defArgs s_law_edit) (defBody s_law_edit) (defScope s_law_edit) .none kVlaw_edit dclaw_edit pmlaw_edit anlaw_edit cdlaw_edit ctlaw_edit), sllaw_edit⟩)
    (claw_edit : PySem.W.codeIn K cdlaw_edit "_law_edit" = true)
    (klaw_edit : PySem.W.keepIn K (.ref f_law_edit) = true)
    (alaw_living : PySem.W.nsIn K mainGlobals "_law_living" = some (some (.ref f_law_living)))
    (llaw_living : K.lookup f_law_living = some ⟨oclaw_living, odlaw_living, .func (PySem.W.fnOf "_law_living" "_law_living" (defArgs s_law_living) (defBody s_law_living) (defScope s_law_living) .none kVlaw_living dclaw_living pmlaw_living anlaw_living cdlaw_living ctlaw_living), sllaw_living⟩)
    (claw_living : PySem.W.codeIn K cdlaw_living "_law_living" = true)
    (klaw_living : PySem.W.keepIn K (.ref f_law_living) = true)
    (alaw_shows : PySem.W.nsIn K mainGlobals "_law_shows" = some (some (.ref f_law_shows)))
    (llaw_shows : K.lookup f_law_shows = some ⟨oclaw_shows, odlaw_shows, .func (PySem.W.fnOf "_law_shows" "_law_shows" (defArgs s_law_shows) (defBody s_law_shows) (defScope s_law_shows) .none kVlaw_shows dclaw_shows pmlaw_shows anlaw_shows cdlaw_shows ctlaw_shows), sllaw_shows⟩)
    (claw_shows : PySem.W.codeIn K cdlaw_shows "_law_shows" = true)
    (klaw_shows : PySem.W.keepIn K (.ref f_law_shows) = true)
    (alaw : PySem.W.nsIn K mainGlobals "law" = some (some (.ref f_law)))
    (llaw : K.lookup f_law = some ⟨oclaw, odlaw, .func (PySem.W.fnOf "law" "law" (defArgs s_law) (defBody s_law) (defScope s_law) .none kVlaw dclaw pmlaw anlaw cdlaw ctlaw), sllaw⟩)
    (claw : PySem.W.codeIn K cdlaw "law" = true)
    (klaw : PySem.W.keepIn K (.ref f_law) = true)
    (zdivmod : PySem.W.nsIn K mainGlobals "divmod" = some none)
    (zrange : PySem.W.nsIn K mainGlobals "range" = some none)
    (zlen : PySem.W.nsIn K mainGlobals "len" = some none)
    (zsum : PySem.W.nsIn K mainGlobals "sum" = some none)
    (zsorted : PySem.W.nsIn K mainGlobals "sorted" = some none)
    (zmin : PySem.W.nsIn K mainGlobals "min" = some none)
    (zmax : PySem.W.nsIn K mainGlobals "max" = some none)
    (ztuple : PySem.W.nsIn K mainGlobals "tuple" = some none)
    (zset : PySem.W.nsIn K mainGlobals "set" = some none)
    (zint : PySem.W.nsIn K mainGlobals "int" = some none)
    (zabs : PySem.W.nsIn K mainGlobals "abs" = some none)
    (zisinstance : PySem.W.nsIn K mainGlobals "isinstance" = some none)
    (zbool : PySem.W.nsIn K mainGlobals "bool" = some none)
    (zlist : PySem.W.nsIn K mainGlobals "list" = some none)
    (xSIDE : PySem.W.nsIn K mainGlobals "SIDE" = some (some (.int (32) uSIDE)))
    (xTOP : PySem.W.nsIn K mainGlobals "TOP" = some (some (.int (5) uTOP)))
    (xALIVE : PySem.W.nsIn K mainGlobals "ALIVE" = some (some (.str (Str.ofString "O") uALIVE)))
    (xDEAD : PySem.W.nsIn K mainGlobals "DEAD" = some (some (.str (Str.ofString ".") uDEAD))) :
    ∃ fd : FuncData, (∀ (s : Shared) (v : Value), BindsTo s fd ⟨[v], []⟩ [("script", v)]) ∧ ∀ base : Heap, K.In base → base.Ns mainGlobals mg → FnOk l.prog w K mg base CX0 10 fa fd ["script"] (sp_law K) := by
  have e := hfa.symm.trans (PySem.W.mg_of X G alaw)
  cases e
  have F_place_of := fun_mk (st := s_place_of) lplace_of cplace_of kplace_of
  have b_place_of := F_place_of.binds (ps := ["row", "column"]) fun _ _ _ _ _ _ us hl => match us, hl with | [_, _], _ => rfl
  have F_blocks_of := fun_mk (st := s_blocks_of) lblocks_of cblocks_of kblocks_of
  have b_blocks_of := F_blocks_of.binds (ps := ["cells"]) fun _ _ _ _ _ _ us hl => match us, hl with | [_], _ => rfl
  have F_block_cells := fun_mk (st := s_block_cells) lblock_cells cblock_cells kblock_cells
  have b_block_cells := F_block_cells.binds (ps := ["block"]) fun _ _ _ _ _ _ us hl => match us, hl with | [_], _ => rfl
  have F_block_count := fun_mk (st := s_block_count) lblock_count cblock_count kblock_count
  have b_block_count := F_block_count.binds (ps := ["block"]) fun _ _ _ _ _ _ us hl => match us, hl with | [_], _ => rfl
  have F_block_changed := fun_mk (st := s_block_changed) lblock_changed cblock_changed kblock_changed
  have b_block_changed := F_block_changed.binds (ps := ["block", "other", "mode"]) fun _ _ _ _ _ _ us hl => match us, hl with | [_, _, _], _ => rfl
  have F_Blocks_init := fun_mk (st := s_Blocks_init) lBlocks_init cBlocks_init kBlocks_init
  have b_Blocks_init := F_Blocks_init.binds (ps := ["self", "rule"]) fun _ _ _ _ _ _ us hl => match us, hl with | [_, _], _ => rfl
  have F_full_block := fun_mk (st := s_full_block) lfull_block cfull_block kfull_block
  have b_full_block := F_full_block.binds (ps := ["level"]) fun _ _ _ _ _ _ us hl => match us, hl with | [_], _ => rfl
  have F_Store_init := fun_mk (st := s_Store_init) lStore_init cStore_init kStore_init
  have b_Store_init := F_Store_init.binds (ps := ["self", "rule"]) fun _ _ _ _ _ _ us hl => match us, hl with | [_, _], _ => rfl
  have F_Store_small := fun_mk (st := s_Store_small) lStore_small cStore_small kStore_small
  have b_Store_small := F_Store_small.binds (ps := ["self", "level", "block"]) fun _ _ _ _ _ _ us hl => match us, hl with | [_, _, _], _ => rfl
  have F_Store_new_square := fun_mk (st := s_Store_new_square) lStore_new_square cStore_new_square kStore_new_square
  have b_Store_new_square := F_Store_new_square.binds (ps := ["self", "level", "count", "block", "parts"]) fun _ _ _ _ _ _ us hl => match us, hl with | [_, _, _, _, _], _ => rfl
  have F_World_init := fun_mk (st := s_World_init) lWorld_init cWorld_init kWorld_init
  have b_World_init := F_World_init.binds (ps := ["self", "rule"]) fun _ _ _ _ _ _ us hl => match us, hl with | [_, _], _ => rfl
  have F_World_put := fun_mk (st := s_World_put) lWorld_put cWorld_put kWorld_put
  have b_World_put := F_World_put.binds (ps := ["self", "row", "column", "alive"]) fun _ _ _ _ _ _ us hl => match us, hl with | [_, _, _, _], _ => rfl
  have F_World_paste := fun_mk (st := s_World_paste) lWorld_paste cWorld_paste kWorld_paste
  have b_World_paste := F_World_paste.binds (ps := ["self", "cells", "row", "column", "mode"]) fun _ _ _ _ _ _ us hl => match us, hl with | [_, _, _, _, _], _ => rfl
  have F_World_tidy := fun_mk (st := s_World_tidy) lWorld_tidy cWorld_tidy kWorld_tidy
  have b_World_tidy := F_World_tidy.binds (ps := ["self"]) fun _ _ _ _ _ _ us hl => match us, hl with | [_], _ => rfl
  have F_World_alive := fun_mk (st := s_World_alive) lWorld_alive cWorld_alive kWorld_alive
  have b_World_alive := F_World_alive.binds (ps := ["self", "row", "column"]) fun _ _ _ _ _ _ us hl => match us, hl with | [_, _, _], _ => rfl
  have F_World_count := fun_mk (st := s_World_count) lWorld_count cWorld_count kWorld_count
  have b_World_count := F_World_count.binds (ps := ["self"]) fun _ _ _ _ _ _ us hl => match us, hl with | [_], _ => rfl
  have F_World_cells := fun_mk (st := s_World_cells) lWorld_cells cWorld_cells kWorld_cells
  have b_World_cells := F_World_cells.binds (ps := ["self"]) fun _ _ _ _ _ _ us hl => match us, hl with | [_], _ => rfl
  have F_World_bounds := fun_mk (st := s_World_bounds) lWorld_bounds cWorld_bounds kWorld_bounds
  have b_World_bounds := F_World_bounds.binds (ps := ["self"]) fun _ _ _ _ _ _ us hl => match us, hl with | [_], _ => rfl
  have F_World_window := fun_mk (st := s_World_window) lWorld_window cWorld_window kWorld_window
  have b_World_window := F_World_window.binds (ps := ["self", "row", "column", "height", "width"]) fun _ _ _ _ _ _ us hl => match us, hl with | [_, _, _, _, _], _ => rfl
  have F_World_cells_of_blocks := fun_mk (st := s_World_cells_of_blocks) lWorld_cells_of_blocks cWorld_cells_of_blocks kWorld_cells_of_blocks
  have b_World_cells_of_blocks := F_World_cells_of_blocks.binds (ps := ["self", "places"]) fun _ _ _ _ _ _ us hl => match us, hl with | [_, _], _ => rfl
  have F_Rule_init := fun_mk (st := s_Rule_init) lRule_init cRule_init kRule_init
  have b_Rule_init := F_Rule_init.binds (ps := ["self", "births", "survival"]) fun _ _ _ _ _ _ us hl => match us, hl with | [_, _, _], _ => rfl
  have F_law_cell := fun_mk (st := s_law_cell) llaw_cell claw_cell klaw_cell
  have b_law_cell := F_law_cell.binds (ps := ["script", "k"]) fun _ _ _ _ _ _ us hl => match us, hl with | [_, _], _ => rfl
  have F_law_row := fun_mk (st := s_law_row) llaw_row claw_row klaw_row
  have b_law_row := F_law_row.binds (ps := ["cell", "count", "bound"]) fun _ _ _ _ _ _ us hl => match us, hl with | [_, _, _], _ => rfl
  have F_law_integer := fun_mk (st := s_law_integer) llaw_integer claw_integer klaw_integer
  have b_law_integer := F_law_integer.binds (ps := ["value"]) fun _ _ _ _ _ _ us hl => match us, hl with | [_], _ => rfl
  have F_law_cells := fun_mk (st := s_law_cells) llaw_cells claw_cells klaw_cells
  have b_law_cells := F_law_cells.binds (ps := ["value"]) fun _ _ _ _ _ _ us hl => match us, hl with | [_], _ => rfl
  have F_law_numbers := fun_mk (st := s_law_numbers) llaw_numbers claw_numbers klaw_numbers
  have b_law_numbers := F_law_numbers.binds (ps := ["cell"]) fun _ _ _ _ _ _ us hl => match us, hl with | [_], _ => rfl
  have F_law_some := fun_mk (st := s_law_some) llaw_some claw_some klaw_some
  have b_law_some := F_law_some.binds (ps := ["cell", "count", "height", "width"]) fun _ _ _ _ _ _ us hl => match us, hl with | [_, _, _, _], _ => rfl
  have F_law_edit := fun_mk (st := s_law_edit) llaw_edit claw_edit klaw_edit
  have b_law_edit := F_law_edit.binds (ps := ["world", "alive", "x"]) fun _ _ _ _ _ _ us hl => match us, hl with | [_, _, _], _ => rfl
  have F_law_living := fun_mk (st := s_law_living) llaw_living claw_living klaw_living
  have b_law_living := F_law_living.binds (ps := ["alive"]) fun _ _ _ _ _ _ us hl => match us, hl with | [_], _ => rfl
  have F_law_shows := fun_mk (st := s_law_shows) llaw_shows claw_shows klaw_shows
  have b_law_shows := F_law_shows.binds (ps := ["world", "cells", "x"]) fun _ _ _ _ _ _ us hl => match us, hl with | [_, _, _], _ => rfl
  have F_law := fun_mk (st := s_law) llaw claw klaw
  have b_law := F_law.binds (ps := ["script"]) fun _ _ _ _ _ _ us hl => match us, hl with | [_], _ => rfl
  let T : Txt K mg := {
    C_Blocks := C_Blocks,
    g_Blocks := PySem.W.mg_of X G aCBlocks,
    cl_Blocks := ⟨pgBlocks, hdBlocks, poBlocks, saBlocks⟩,
    na_Blocks__rule := nBlocks_rule,
    na_Blocks__full := nBlocks_full,
    C_Store := C_Store,
    g_Store := PySem.W.mg_of X G aCStore,
    cl_Store := ⟨pgStore, hdStore, poStore, saStore⟩,
    na_Store__rule := nStore_rule,
    na_Store__blocks := nStore_blocks,
    na_Store__levels := nStore_levels,
    na_Store__counts := nStore_counts,
    na_Store__bits := nStore_bits,
    na_Store__parts := nStore_parts,
    na_Store__small := nStore_small,
    na_Store__large := nStore_large,
    na_Store__empty := nStore_empty,
    na_Store__futures := nStore_futures,
    C_World := C_World,
    g_World := PySem.W.mg_of X G aCWorld,
    cl_World := ⟨pgWorld, hdWorld, poWorld, saWorld⟩,
    na_World_generation := nWorldgeneration,
    na_World__rule := nWorld_rule,
    na_World__store := nWorld_store,
    na_World__living := nWorld_living,
    C_Rule := C_Rule,
    g_Rule := PySem.W.mg_of X G aCRule,
    cl_Rule := ⟨pgRule, hdRule, poRule, saRule⟩,
    na_Rule_births := nRulebirths,
    na_Rule_survival := nRulesurvival,
    f_place_of := f_place_of,
    d_place_of := _,
    F_place_of := F_place_of,
    b_place_of := b_place_of,
    g_place_of := PySem.W.mg_of X G aplace_of,
    f_blocks_of := f_blocks_of,
    d_blocks_of := _,
    F_blocks_of := F_blocks_of,
    b_blocks_of := b_blocks_of,
    g_blocks_of := PySem.W.mg_of X G ablocks_of,
    f_block_cells := f_block_cells,
    d_block_cells := _,
    F_block_cells := F_block_cells,
    b_block_cells := b_block_cells,
    g_block_cells := PySem.W.mg_of X G ablock_cells,
    f_block_count := f_block_count,
    d_block_count := _,
    F_block_count := F_block_count,
    b_block_count := b_block_count,
    g_block_count := PySem.W.mg_of X G ablock_count,
    f_block_changed := f_block_changed,
    d_block_changed := _,
    F_block_changed := F_block_changed,
    b_block_changed := b_block_changed,
    g_block_changed := PySem.W.mg_of X G ablock_changed,
    f_Blocks_init := f_Blocks_init,
    d_Blocks_init := _,
    F_Blocks_init := F_Blocks_init,
    b_Blocks_init := b_Blocks_init,
    M_Blocks := ⟨mkBlocks, aBlocks_init, iBlocks_init, kcBlocks⟩,
    f_full_block := f_full_block,
    d_full_block := _,
    F_full_block := F_full_block,
    b_full_block := b_full_block,
    g_full_block := PySem.W.mg_of X G afull_block,
    f_Store_init := f_Store_init,
    d_Store_init := _,
    F_Store_init := F_Store_init,
    b_Store_init := b_Store_init,
    M_Store := ⟨mkStore, aStore_init, iStore_init, kcStore⟩,
    f_Store_small := f_Store_small,
    d_Store_small := _,
    F_Store_small := F_Store_small,
    b_Store_small := b_Store_small,
    m_Store_small := ⟨aStore_small, iStore_small, kStore_small⟩,
    f_Store_new_square := f_Store_new_square,
    d_Store_new_square := _,
    F_Store_new_square := F_Store_new_square,
    b_Store_new_square := b_Store_new_square,
    m_Store_new_square := ⟨aStore_new_square, iStore_new_square, kStore_new_square⟩,
    f_World_init := f_World_init,
    d_World_init := _,
    F_World_init := F_World_init,
    b_World_init := b_World_init,
    M_World := ⟨mkWorld, aWorld_init, iWorld_init, kcWorld⟩,
    f_World_put := f_World_put,
    d_World_put := _,
    F_World_put := F_World_put,
    b_World_put := b_World_put,
    m_World_put := ⟨aWorld_put, iWorld_put, kWorld_put⟩,
    f_World_paste := f_World_paste,
    d_World_paste := _,
    F_World_paste := F_World_paste,
    b_World_paste := b_World_paste,
    m_World_paste := ⟨aWorld_paste, iWorld_paste, kWorld_paste⟩,
    f_World_tidy := f_World_tidy,
    d_World_tidy := _,
    F_World_tidy := F_World_tidy,
    b_World_tidy := b_World_tidy,
    m_World_tidy := ⟨aWorld_tidy, iWorld_tidy, kWorld_tidy⟩,
    f_World_alive := f_World_alive,
    d_World_alive := _,
    F_World_alive := F_World_alive,
    b_World_alive := b_World_alive,
    m_World_alive := ⟨aWorld_alive, iWorld_alive, kWorld_alive⟩,
    f_World_count := f_World_count,
    d_World_count := _,
    F_World_count := F_World_count,
    b_World_count := b_World_count,
    m_World_count := ⟨aWorld_count, iWorld_count, kWorld_count⟩,
    f_World_cells := f_World_cells,
    d_World_cells := _,
    F_World_cells := F_World_cells,
    b_World_cells := b_World_cells,
    m_World_cells := ⟨aWorld_cells, iWorld_cells, kWorld_cells⟩,
    f_World_bounds := f_World_bounds,
    d_World_bounds := _,
    F_World_bounds := F_World_bounds,
    b_World_bounds := b_World_bounds,
    m_World_bounds := ⟨aWorld_bounds, iWorld_bounds, kWorld_bounds⟩,
    f_World_window := f_World_window,
    d_World_window := _,
    F_World_window := F_World_window,
    b_World_window := b_World_window,
    m_World_window := ⟨aWorld_window, iWorld_window, kWorld_window⟩,
    f_World_cells_of_blocks := f_World_cells_of_blocks,
    d_World_cells_of_blocks := _,
    F_World_cells_of_blocks := F_World_cells_of_blocks,
    b_World_cells_of_blocks := b_World_cells_of_blocks,
    m_World_cells_of_blocks := ⟨aWorld_cells_of_blocks, iWorld_cells_of_blocks, kWorld_cells_of_blocks⟩,
    f_Rule_init := f_Rule_init,
    d_Rule_init := _,
    F_Rule_init := F_Rule_init,
    b_Rule_init := b_Rule_init,
    M_Rule := ⟨mkRule, aRule_init, iRule_init, kcRule⟩,
    f_law_cell := f_law_cell,
    d_law_cell := _,
    F_law_cell := F_law_cell,
    b_law_cell := b_law_cell,
    g_law_cell := PySem.W.mg_of X G alaw_cell,
    f_law_row := f_law_row,
    d_law_row := _,
    F_law_row := F_law_row,
    b_law_row := b_law_row,
    g_law_row := PySem.W.mg_of X G alaw_row,
    f_law_integer := f_law_integer,
    d_law_integer := _,
    F_law_integer := F_law_integer,
    b_law_integer := b_law_integer,
    g_law_integer := PySem.W.mg_of X G alaw_integer,
    f_law_cells := f_law_cells,
    d_law_cells := _,
    F_law_cells := F_law_cells,
    b_law_cells := b_law_cells,
    g_law_cells := PySem.W.mg_of X G alaw_cells,
    f_law_numbers := f_law_numbers,
    d_law_numbers := _,
    F_law_numbers := F_law_numbers,
    b_law_numbers := b_law_numbers,
    g_law_numbers := PySem.W.mg_of X G alaw_numbers,
    f_law_some := f_law_some,
    d_law_some := _,
    F_law_some := F_law_some,
    b_law_some := b_law_some,
    g_law_some := PySem.W.mg_of X G alaw_some,
    f_law_edit := f_law_edit,
    d_law_edit := _,
    F_law_edit := F_law_edit,
    b_law_edit := b_law_edit,
    g_law_edit := PySem.W.mg_of X G alaw_edit,
    f_law_living := f_law_living,
    d_law_living := _,
    F_law_living := F_law_living,
    b_law_living := b_law_living,
    g_law_living := PySem.W.mg_of X G alaw_living,
    f_law_shows := f_law_shows,
    d_law_shows := _,
    F_law_shows := F_law_shows,
    b_law_shows := b_law_shows,
    g_law_shows := PySem.W.mg_of X G alaw_shows,
    f_law := fa,
    d_law := _,
    F_law := F_law,
    b_law := b_law,
    g_law := PySem.W.mg_of X G alaw,
    z_divmod := PySem.W.mg_none_of X G zdivmod,
    z_range := PySem.W.mg_none_of X G zrange,
    z_len := PySem.W.mg_none_of X G zlen,
    z_sum := PySem.W.mg_none_of X G zsum,
    z_sorted := PySem.W.mg_none_of X G zsorted,
    z_min := PySem.W.mg_none_of X G zmin,
    z_max := PySem.W.mg_none_of X G zmax,
    z_tuple := PySem.W.mg_none_of X G ztuple,
    z_set := PySem.W.mg_none_of X G zset,
    z_int := PySem.W.mg_none_of X G zint,
    z_abs := PySem.W.mg_none_of X G zabs,
    z_isinstance := PySem.W.mg_none_of X G zisinstance,
    z_bool := PySem.W.mg_none_of X G zbool,
    z_list := PySem.W.mg_none_of X G zlist,
    c_SIDE := ⟨_, PySem.W.mg_of X G xSIDE, ⟨_, rfl⟩⟩,
    c_TOP := ⟨_, PySem.W.mg_of X G xTOP, ⟨_, rfl⟩⟩,
    c_ALIVE := ⟨_, PySem.W.mg_of X G xALIVE, ⟨_, rfl⟩⟩,
    c_DEAD := ⟨_, PySem.W.mg_of X G xDEAD, ⟨_, rfl⟩⟩ }
  exact ⟨_, fun s v => .of_eq rfl, fun base _ _ => ok_law T⟩
end My
open PySem PySem.W PyProof.Rows
set_option maxHeartbeats 0 in
theorem PySem.Challenge.cw_longlife_k12_edits_and_windows_of_a_worl_holds : PySem.Challenge.rw_longlife_k12_edits_and_windows_of_a_worl.Holds := by
  w_on; o_law; k_head; (case hw => w_witness2)
  k_fill
  refine L2.walk_of (l := PySem.Challenge.rw_longlife_k12_edits_and_windows_of_a_worl) (n := 63) (k := 10) (x := "script") (CX := fun _ => L2.CX0) (sp := fun w => My.sp_law _) rfl (by decide) rfl ⟨rfl, by decide, by decide⟩ (fun w h Y => PySem.W.kIn_of Y) ?F (fun _ _ a ns hl _ hS => ⟨a, ns, rfl, hS, hl, fun _ => rfl⟩) (fun _ _ _ _ _ h => h)
  case F =>
    intro w mg fa h KX G hmg
    refine' My.all_mk KX G hmg ?aCBlocks ?pgBlocks ?hdBlocks ?poBlocks ?saBlocks ?mkBlocks ?kcBlocks ?nBlocks_rule ?nBlocks_full ?aCStore ?pgStore ?hdStore ?poStore ?saStore ?mkStore ?kcStore ?nStore_rule ?nStore_blocks ?nStore_levels ?nStore_counts ?nStore_bits ?nStore_parts ?nStore_small ?nStore_large ?nStore_empty ?nStore_futures ?aCWorld ?pgWorld ?hdWorld ?poWorld ?saWorld ?mkWorld ?kcWorld ?nWorldgeneration ?nWorld_rule ?nWorld_store ?nWorld_living ?aCRule ?pgRule ?hdRule ?poRule ?saRule ?mkRule ?kcRule ?nRulebirths ?nRulesurvival ?aplace_of ?lplace_of ?cplace_of ?kplace_of ?ablocks_of ?lblocks_of ?cblocks_of ?kblocks_of ?ablock_cells ?lblock_cells ?cblock_cells ?kblock_cells ?ablock_count ?lblock_count ?cblock_count ?kblock_count ?ablock_changed ?lblock_changed ?cblock_changed ?kblock_changed ?aBlocks_init ?iBlocks_init ?lBlocks_init ?cBlocks_init ?kBlocks_init ?afull_block ?lfull_block ?cfull_block ?kfull_block ?aStore_init ?iStore_init ?lStore_init ?cStore_init ?kStore_init ?aStore_small ?iStore_small ?lStore_small ?cStore_small ?kStore_small ?aStore_new_square ?iStore_new_square ?lStore_new_square ?cStore_new_square ?kStore_new_square ?aWorld_init ?iWorld_init ?lWorld_init ?cWorld_init ?kWorld_init ?aWorld_put ?iWorld_put ?lWorld_put ?cWorld_put ?kWorld_put ?aWorld_paste ?iWorld_paste ?lWorld_paste ?cWorld_paste ?kWorld_paste ?aWorld_tidy ?iWorld_tidy ?lWorld_tidy ?cWorld_tidy ?kWorld_tidy ?aWorld_alive ?iWorld_alive ?lWorld_alive ?cWorld_alive ?kWorld_alive ?aWorld_count ?iWorld_count ?lWorld_count ?cWorld_count ?kWorld_count ?aWorld_cells ?iWorld_cells ?lWorld_cells ?cWorld_cells ?kWorld_cells ?aWorld_bounds ?iWorld_bounds ?lWorld_bounds ?cWorld_bounds ?kWorld_bounds ?aWorld_window ?iWorld_window ?lWorld_window ?cWorld_window ?kWorld_window ?aWorld_cells_of_blocks ?iWorld_cells_of_blocks ?lWorld_cells_of_blocks ?cWorld_cells_of_blocks ?kWorld_cells_of_blocks ?aRule_init ?iRule_init ?lRule_init ?cRule_init ?kRule_init ?alaw_cell ?llaw_cell ?claw_cell ?klaw_cell ?alaw_row ?llaw_row ?claw_row ?klaw_row ?alaw_integer ?llaw_integer ?claw_integer ?klaw_integer ?alaw_cells ?llaw_cells ?claw_cells ?klaw_cells ?alaw_numbers ?llaw_numbers ?claw_numbers ?klaw_numbers ?alaw_some ?llaw_some ?claw_some ?klaw_some ?alaw_edit ?llaw_edit ?claw_edit ?klaw_edit ?alaw_living ?llaw_living ?claw_living ?klaw_living ?alaw_shows ?llaw_shows ?claw_shows ?klaw_shows ?alaw ?llaw ?claw ?klaw ?zdivmod ?zrange ?zlen ?zsum ?zsorted ?zmin ?zmax ?ztuple ?zset ?zint ?zabs ?zisinstance ?zbool ?zlist ?xSIDE ?xTOP ?xALIVE ?xDEAD
    (case aCBlocks => k_is)
    (case pgBlocks => k_is)
    (case hdBlocks => k_is)
    (case poBlocks => k_is)
    (case saBlocks => k_is)
    (case mkBlocks => k_is)
    (case kcBlocks => k_is)
    (case nBlocks_rule => k_is)
    (case nBlocks_full => k_is)
    (case aCStore => k_is)
    (case pgStore => k_is)
    (case hdStore => k_is)
    (case poStore => k_is)
    (case saStore => k_is)
    (case mkStore => k_is)
    (case kcStore => k_is)
    (case nStore_rule => k_is)
    (case nStore_blocks => k_is)
    (case nStore_levels => k_is)
    (case nStore_counts => k_is)
    (case nStore_bits => k_is)
    (case nStore_parts => k_is)
    (case nStore_small => k_is)
    (case nStore_large => k_is)
    (case nStore_empty => k_is)
    (case nStore_futures => k_is)
    (case aCWorld => k_is)
    (case pgWorld => k_is)
    (case hdWorld => k_is)
    (case poWorld => k_is)
    (case saWorld => k_is)
    (case mkWorld => k_is)
    (case kcWorld => k_is)
    (case nWorldgeneration => k_is)
    (case nWorld_rule => k_is)
    (case nWorld_store => k_is)
    (case nWorld_living => k_is)
    (case aCRule => k_is)
    (case pgRule => k_is)
    (case hdRule => k_is)
    (case poRule => k_is)
    (case saRule => k_is)
    (case mkRule => k_is)
    (case kcRule => k_is)
    (case nRulebirths => k_is)
    (case nRulesurvival => k_is)
    (case aplace_of => k_is)
    (case lplace_of => k_is)
    (case cplace_of => k_is)
    (case kplace_of => k_is)
    (case ablocks_of => k_is)
    (case lblocks_of => k_is)
    (case cblocks_of => k_is)
    (case kblocks_of => k_is)
    (case ablock_cells => k_is)
    (case lblock_cells => k_is)
    (case cblock_cells => k_is)
    (case kblock_cells => k_is)
    (case ablock_count => k_is)
    (case lblock_count => k_is)
    (case cblock_count => k_is)
    (case kblock_count => k_is)
    (case ablock_changed => k_is)
    (case lblock_changed => k_is)
    (case cblock_changed => k_is)
    (case kblock_changed => k_is)
    (case aBlocks_init => k_is)
    (case iBlocks_init => k_is)
    (case lBlocks_init => k_is)
    (case cBlocks_init => k_is)
    (case kBlocks_init => k_is)
    (case afull_block => k_is)
    (case lfull_block => k_is)
    (case cfull_block => k_is)
    (case kfull_block => k_is)
    (case aStore_init => k_is)
    (case iStore_init => k_is)
    (case lStore_init => k_is)
    (case cStore_init => k_is)
    (case kStore_init => k_is)
    (case aStore_small => k_is)
    (case iStore_small => k_is)
    (case lStore_small => k_is)
    (case cStore_small => k_is)
    (case kStore_small => k_is)
    (case aStore_new_square => k_is)
    (case iStore_new_square => k_is)
    (case lStore_new_square => k_is)
    (case cStore_new_square => k_is)
    (case kStore_new_square => k_is)
    (case aWorld_init => k_is)
    (case iWorld_init => k_is)
    (case lWorld_init => k_is)
    (case cWorld_init => k_is)
    (case kWorld_init => k_is)
    (case aWorld_put => k_is)
    (case iWorld_put => k_is)
    (case lWorld_put => k_is)
    (case cWorld_put => k_is)
    (case kWorld_put => k_is)
    (case aWorld_paste => k_is)
    (case iWorld_paste => k_is)
    (case lWorld_paste => k_is)
    (case cWorld_paste => k_is)
    (case kWorld_paste => k_is)
    (case aWorld_tidy => k_is)
    (case iWorld_tidy => k_is)
    (case lWorld_tidy => k_is)
    (case cWorld_tidy => k_is)
    (case kWorld_tidy => k_is)
    (case aWorld_alive => k_is)
    (case iWorld_alive => k_is)
    (case lWorld_alive => k_is)
    (case cWorld_alive => k_is)
    (case kWorld_alive => k_is)
    (case aWorld_count => k_is)
    (case iWorld_count => k_is)
    (case lWorld_count => k_is)
    (case cWorld_count => k_is)
    (case kWorld_count => k_is)
    (case aWorld_cells => k_is)
    (case iWorld_cells => k_is)
    (case lWorld_cells => k_is)
    (case cWorld_cells => k_is)
    (case kWorld_cells => k_is)
    (case aWorld_bounds => k_is)
    (case iWorld_bounds => k_is)
    (case lWorld_bounds => k_is)
    (case cWorld_bounds => k_is)
    (case kWorld_bounds => k_is)
    (case aWorld_window => k_is)
    (case iWorld_window => k_is)
    (case lWorld_window => k_is)
    (case cWorld_window => k_is)
    (case kWorld_window => k_is)
    (case aWorld_cells_of_blocks => k_is)
    (case iWorld_cells_of_blocks => k_is)
    (case lWorld_cells_of_blocks => k_is)
    (case cWorld_cells_of_blocks => k_is)
    (case kWorld_cells_of_blocks => k_is)
    (case aRule_init => k_is)
    (case iRule_init => k_is)
    (case lRule_init => k_is)
    (case cRule_init => k_is)
    (case kRule_init => k_is)
    (case alaw_cell => k_is)
    (case llaw_cell => k_is)
    (case claw_cell => k_is)
    (case klaw_cell => k_is)
    (case alaw_row => k_is)
    (case llaw_row => k_is)
    (case claw_row => k_is)
    (case klaw_row => k_is)
    (case alaw_integer => k_is)
    (case llaw_integer => k_is)
    (case claw_integer => k_is)
    (case klaw_integer => k_is)
    (case alaw_cells => k_is)
    (case llaw_cells => k_is)
    (case claw_cells => k_is)
    (case klaw_cells => k_is)
    (case alaw_numbers => k_is)
    (case llaw_numbers => k_is)
    (case claw_numbers => k_is)
    (case klaw_numbers => k_is)
    (case alaw_some => k_is)
    (case llaw_some => k_is)
    (case claw_some => k_is)
    (case klaw_some => k_is)
    (case alaw_edit => k_is)
    (case llaw_edit => k_is)
    (case claw_edit => k_is)
    (case klaw_edit => k_is)
    (case alaw_living => k_is)
    (case llaw_living => k_is)
    (case claw_living => k_is)
    (case klaw_living => k_is)
    (case alaw_shows => k_is)
    (case llaw_shows => k_is)
    (case claw_shows => k_is)
    (case klaw_shows => k_is)
    (case alaw => k_is)
    (case llaw => k_is)
    (case claw => k_is)
    (case klaw => k_is)
    (case zdivmod => k_is)
    (case zrange => k_is)
    (case zlen => k_is)
    (case zsum => k_is)
    (case zsorted => k_is)
    (case zmin => k_is)
    (case zmax => k_is)
    (case ztuple => k_is)
    (case zset => k_is)
    (case zint => k_is)
    (case zabs => k_is)
    (case zisinstance => k_is)
    (case zbool => k_is)
    (case zlist => k_is)
    (case xSIDE => k_is)
    (case xTOP => k_is)
    (case xALIVE => k_is)
    (case xDEAD => k_is)
