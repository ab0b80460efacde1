import PyProof.Rows.All
import Wide.All
import OpenK.AllK
import Wide.FinOn
import HandS.ForMost
import HandS.Strs
import HandS.SetFor
import HandS.OwnEq
import HandS.SlotsOwn
import HandS.IsInst
import HandS.Wide
import HandS.Style
import HandS.Steps
import HandS.Walk
import HandS.Exc
import HandS.TryOnly
import HandS.ExcOwn
import HandS.WordsExc
import HandS.FStr
import HandS.RaiseMore
import HandS.ExcIs
import HandS.TupSets
import HandS.SortRule
import PyProof.Rows.AssignMoreSeq
import HandS.NoneIn
import HandS.Deep
import PyProof.Rows.RegStrFacts
import HandS.DictTup
import HandS.Conv
import HandS.WideBits
import KE.OsArith
import HandS.Comp
import PySem.Challenge.RW_longlife_k28_whole_rings_unrolled
set_option Elab.async false
set_option linter.all false
set_option maxRecDepth 100000
set_option maxHeartbeats 4000000
namespace Vx
open PySem PySem.Spec PyProof.Rows L2
/-! ### heaps that grow -/
theorem newS {H : Hp} {p : Addr} {o : HO} (n : H p = none) : Same H (upd H p o) := fun b x e => by
  rw [upd_ne (ne_of_none e n)]
  exact e
theorem mutS {H H' : Hp} {p : Addr} {o : HO} (e : Same H H') (n : H p = none) : Same H (upd H' p o) := fun b x hb => by
  rw [upd_ne (ne_of_none hb n)]
  exact e b x hb
theorem getS {H H' : Hp} {a : Addr} {o : HO} (e : Same H H') (h : H a = some o) : H' a = some o := e a o h
theorem tupS {K : PySem.W.Frag} {H H' : Hp} {a : Addr} {xs : List V} (e : Same H H') (h : SqT K H a xs) : SqT K H' a xs := by
  rcases h with (h | ⟨o, h⟩) | h
  · exact .inl (.inl (e _ _ h))
  · exact .inl (.inr ⟨o, e _ _ h⟩)
  · exact .inr h
theorem lst_of {K : PySem.W.Frag} {H : Hp} {a : Addr} {xs : List V} (h : H a = some (.lst xs)) : SqL K H a xs := .inl (.inl h)
theorem tup_of {K : PySem.W.Frag} {H : Hp} {a : Addr} {xs : List V} (h : H a = some (.tup xs)) : SqT K H a xs := .inl (.inl h)
theorem neS {H H' : Hp} {a p : Addr} {o : HO} (h : H a = some o) (e : Same H H') (n : H' p = none) : a ≠ p := ne_of_none (e a o h) n
theorem backS {H H' : Hp} {p : Addr} (e : Same H H') (n : H' p = none) : H p = none := Same.free e n
theorem gen_e {H H1 : Hp} {p : Addr} {o : HO} (q : upd H p o = H1) (n : H p = none) : Same H H1 ∧ H1 p = some o := by
  subst q
  exact ⟨newS n, upd_same⟩
/-! ### calls of built-ins, one way each -/
section
variable {X : Cx}
theorem call_intI : CallR X (.type "int") (fun xs H Q => ∃ i, xs = [.int i] ∧ Q (.int i) H) := fun pins s σ H xs us Q I r h => call_int1 pins s σ H xs us Q I r (.inl h)
theorem call_tupL : CallR X (.type "tuple") (fun xs H Q => ∃ p ys, xs = [.ref p] ∧ SqL X.K H p ys ∧ ∀ l, H l = none → Q (.ref l) (upd H l (.tup ys))) := fun pins s σ H xs us Q I r h => by
  obtain ⟨p, ys, e, hs, q⟩ := h
  exact call_tuple_of pins s σ H xs us Q I r ⟨p, ys, e, .inl ⟨hs, q⟩⟩
theorem call_lenL : CallR X (.builtin "len") (fun xs H Q => ∃ p ys, xs = [.ref p] ∧ SqL X.K H p ys ∧ Q (.int ys.length) H) := fun pins s σ H xs us Q I r h => by
  obtain ⟨p, ys, e, hs, q⟩ := h
  exact call_len_seq pins s σ H xs us Q I r ⟨p, ys, e, .inl hs, q⟩
theorem call_lenU : CallR X (.builtin "len") (fun xs H Q => ∃ p ys, xs = [.ref p] ∧ SqT X.K H p ys ∧ Q (.int ys.length) H) := fun pins s σ H xs us Q I r h => by
  obtain ⟨p, ys, e, hs, q⟩ := h
  exact call_len_seq pins s σ H xs us Q I r ⟨p, ys, e, .inr hs, q⟩
theorem call_listL : CallR X (.type "list") (fun xs H Q => ∃ p ys, xs = [.ref p] ∧ SqL X.K H p ys ∧ ∀ l, H l = none → Q (.ref l) (upd H l (.lst ys))) := fun pins s σ H xs us Q I r h => by
  obtain ⟨p, ys, e, hs, q⟩ := h
  exact call_list_of pins s σ H xs us Q I r ⟨p, ys, e, .inl hs, q⟩
/-- a class of the text is no built-in type -/
theorem op_isCT : OpR X (compareOp .Is) (fun x y H Q => ∃ a n, x = V.ref a ∧ y = V.ty n ∧ Q (.bl false) H) := by
  intro pins s σ H x y v u Q I rx ry h
  obtain ⟨a, n, rfl, rfl, q⟩ := h
  cases (show v = Value.ref a from rx)
  cases (show u = Value.type n from ry)
  exact wpAny_is_other rfl (fun z => by cases z) ⟨.bl false, H, I, rfl, q⟩
theorem looks_ty {M : Model} {s : Shared} {u : Value} {T : String} (h : s.TypeIs u T) : PySem.W.Looks M s.heap (typeOf u) (.type T) := by
  unfold Shared.TypeIs at h
  split at h
  · obtain ⟨o, ho, hc⟩ := h
    exact fun A Q E s' k q => wpAny_typeOf_ref (k _ _ ho) (by rw [hc]; exact q)
  · exact PySem.W.Looks.of_pure h
/-- x == y by the text's own __eq__; y an instance of that class, or of a built-in type -/
def rEqOwn (K : PySem.W.Frag) (C : Addr) (sp : Sp) (E : XK) : R2 := fun x y H Q => ∃ a dx fs, x = .ref a ∧ H a = some (.ins C dx fs) ∧
  ((∃ b dy gs, y = .ref b ∧ H b = some (.ins C dy gs)) ∨ ∃ T, TyB K H y T ∧ PySem.W.notFirst K C (.type T) = true) ∧ sp [x, y] H Q E
theorem op_eqOwn {CX : CXT} {C g : Addr} {n : Nat} {sp : Sp} {E : XK} (hs : PySem.W.findIn X.K (.ref C) "__eq__" = some (some (.ref g))) (hf : PySem.W.isFn X.K (.ref g) = true)
    (F : FnR X.prog X.w X.K X.mg X.base CX n g sp) (hr : Room n X.A) (hx : Passes CX X E) : OpR X (compareOp .Eq) (rEqOwn X.K C sp E) := by
  intro pins s σ H x y v u Q I rx ry h
  obtain ⟨a, dx, fs, rfl, ha, hy, q⟩ := h
  cases (show v = Value.ref a from rx)
  obtain ⟨mA, O, _⟩ := ins_get I.hok ha
  obtain ⟨od, J, _⟩ := O.look
  obtain ⟨m, hF⟩ := I.fr
  show wpAny (model X.prog X.w) X.A (richCompare .Eq (.ref a) u) (EP X pins σ Q) X.xe s
  have fin : wpAny (model X.prog X.w) X.A (call (.ref g) [.ref a, u]) (PySem.W.CmpBack (EP X pins σ Q)) X.xe s := by
    refine wpAny_mono (wpAny_call (run_fnR (us := [.ref a, u]) (vs := [.ref a, y]) F hr hx I (.cons rfl (.cons ry .nil)) q)) (fun w s' z => ?_) fun _ _ x => x
    obtain ⟨z', H', I', rz, qz⟩ := z
    exact SlX.cmpback rz ⟨z', H', I', rz, qz⟩
  rcases hy with ⟨b, dy, gs, rfl, hb⟩ | ⟨T, ty, nf⟩
  · cases (show u = Value.ref b from ry)
    obtain ⟨mB, O2, _⟩ := ins_get I.hok hb
    obtain ⟨od2, J2, _⟩ := O2.look
    exact PySem.W.cmp_K (op := .Eq) (tb := .ref C) hr.units0 hF I.ok.mod.kin J J2.type (by simp [PySem.W.notFirst]) hs hf fin
  · exact PySem.W.cmp_K (op := .Eq) (tb := .type T) hr.units0 hF I.ok.mod.kin J (looks_ty (ty.is I ry)) nf hs hf fin
theorem nf_str {K : PySem.W.Frag} {C : Addr} : PySem.W.notFirst K C (.type "str") = true := by rfl
theorem nf_tup {K : PySem.W.Frag} {C : Addr} : PySem.W.notFirst K C (.type "tuple") = true := by rfl
end
end Vx
namespace Vx
open PySem PySem.Spec PyProof.Rows L2
/-! ### set(xs) of a list of ints -/
abbrev bareSet (w : World) : Obj := { cls := .type "set", dict := none, data := .set #[] 0 (.fresh 0 0 (!w.params.followText "set-order")) }
section
variable {P : Program} {w : World} {A : Around} {E : Value → Shared → Prop} {s : Shared}
theorem set_of_list {l : Addr} {its : Array Value} (ns : List Int) {Q : Value → Shared → Prop} (calm : A.handled = none) (hl : s.heap.IsList l its) (hi : IntsAre its.toList ns) (room : ns.length + 1 < scanBound)
    (k : ∀ (g : Heap) (t c : Nat), SetR w g s.heap.objs.size (fun j => decide (j ∈ ns)) c → c ≤ ns.length → (∀ b o, s.heap.get? b = some o → g.get? b = some o) → Q (.ref s.heap.objs.size) { s with heap := g, toks := t }) :
    wpAny (model P w) A (call (.type "set") [.ref l]) Q E s := by
  have len : its.size = ns.length := by
    have z := IntsAre.length hi
    rwa [Array.length_toList] at z
  obtain ⟨c0, tl, hmro⟩ := F.called_set.mro
  have hmade := F.called_set.made
  have hsub := F.called_set.sub
  refine wpAny_call (codeAny_of_tree ?_)
  show wpAny _ _ (callAny (.type "set") _) _ _ _
  refine wpAny_pure ⟨Code.quiet_builtin _ (by decide +kernel), codeAny_builtin F.entry_type_call ?_⟩
  rw [Around.under_plain (weight_type_call_type "set" [.ref l] []) rfl]
  have n1 := F.called_set.notType
  have n2 := F.called_set.canCreate
  have n3 := F.typeCall_set_1 (.ref l)
  repeat (any_goals (first | assumption | wp_step))
  refine codeAny_mono (code_set_led1 (.ref l) (E := E) (Q₁ := fun ob s1 => ob = .ref s.heap.objs.size ∧ s1 = { s with heap := s.heap.push (bareSet w) }) ⟨rfl, rfl⟩) fun r s1 hr => ?_
  rcases r with e | fl
  · exact hr
  cases fl with
  | ret ob =>
    obtain ⟨rfl, rfl⟩ := hr
    have at0 : (s.heap.push (bareSet w)).get? s.heap.objs.size = some (bareSet w) := Heap.get?_push_size _ rfl
    have ty0 : Shared.TypeIs { s with heap := s.heap.push (bareSet w) } (.ref s.heap.objs.size) "set" := ⟨_, at0, rfl⟩
    have i1 := F.called_set.init.lookup
    have i2 := F.called_set.init.bind (.ref s.heap.objs.size)
    repeat (any_goals (first | assumption | wp_step))
    refine codeAny_mono (codeAny_call_builtin (R := wants (fun v s2 => v = .none ∧ ∃ g t c, s2 = { s with heap := g, toks := t } ∧ SetR w g s.heap.objs.size (fun j => decide (j ∈ ns)) c ∧ c ≤ ns.length ∧
        (∀ b o, s.heap.get? b = some o → g.get? b = some o)) E) F.called_set.init.plain F.entry_set_init (check_set_init_1 ty0 ?_)) fun r2 s2 hr2 => ?_
    · obtain ⟨⟨oc, od, ob, osl⟩, hol, hcl, nl, hdl⟩ := hl
      simp only at hcl hdl
      subst hcl hdl
      have at1 : (s.heap.push (bareSet w)).get? l = some { cls := .type "list", dict := od, data := .seq its nl, slots := osl } := Heap.get?_push_of_some _ hol
      have q1 := F.sub_list_set
      have q2 := F.sub_list_frozenset
      have q3 : (Value.type "list" == Value.type "dict") = false := by decide
      have isl : (s.heap.push (bareSet w)).IsList l its := ⟨_, at1, rfl, nl, rfl⟩
      unfold Builtin.«set.__init__» noKeywords Builtin.Frozenset.updateFrom
      generalize hPI : pyIter = PI
      wp_walk
      subst hPI
      refine wpAny_pyIter_list isl ?_
      refine wpAny_bind (wpAny_runValue ?_)
      have lS : l < s.heap.objs.size := Heap.lt_size hol
      have calm3 : A.in1.in1.in1.handled = none := by simp [calm]
      have neI : l ≠ (s.heap.push (bareSet w)).objs.size := by
        rw [Heap.size_push]
        exact Nat.ne_of_lt (Nat.lt_succ_of_lt lS)
      have noS : s.heap.objs.size ∉ [(s.heap.push (bareSet w)).objs.size, l] := by
        rw [Heap.size_push]
        simp only [List.mem_cons, List.mem_singleton, List.not_mem_nil, or_false, not_or]
        exact ⟨Nat.ne_of_lt (Nat.lt_succ_self _), Nat.ne_of_gt lS⟩
      have item : ∀ (i : Nat) (v : Value), its[i]? = some v → ∃ m t, ns[i]? = some m ∧ v = .int m t := fun i v hv => by
        have li : i < ns.length := by rw [← len]; exact (Array.getElem?_eq_some_iff.mp hv).1
        obtain ⟨t, e⟩ := PyProof.Rows.IntsAre.int_at hi i v (by rw [Array.getElem?_toList]; exact hv)
        refine ⟨ns[i], t, List.getElem?_eq_getElem li, ?_⟩
        rw [e, List.getD_eq_getElem?_getD, List.getElem?_eq_getElem li]
        rfl
      refine set_update_ints ((Walks.list calm3 _ l neI its).toS) s.heap.objs.size noS ns len room item (its.size - 0) 0 _ (by omega) (Nat.zero_le _) ⟨⟨_, Heap.get?_push_size _ rfl, rfl, rfl⟩, (isl.push _)⟩ ?s0 ?fin
      case s0 => exact ⟨0, Nat.le_refl 0, setR_new_at (Heap.get?_push_of_some _ at0)⟩
      case fin =>
        intro s3 c3 mv hc3 hS3
        obtain ⟨g3, ge, dr, t3, os3⟩ := s3
        cases (show ge = s.gens from mv.gens)
        cases (show dr = s.drawn from mv.drawn)
        cases (show os3 = s.os from mv.os)
        show wpAny _ _ _ _ _ _
        refine wpAny_pure ?_
        show wpAny _ _ (ret Value.none) _ _ _
        rw [len] at hc3
        refine wpAny_pure ⟨rfl, g3, t3, c3, rfl, hS3, hc3, fun b o e => ?_⟩
        have b0 : b < s.heap.objs.size := Heap.lt_size e
        have b2 : b ≠ (s.heap.push (bareSet w)).objs.size := by
          rw [Heap.size_push]
          exact Nat.ne_of_lt (Nat.lt_succ_of_lt b0)
        exact mv.heap b o (by simp only [List.mem_cons, List.mem_singleton, List.not_mem_nil, or_false, not_or]; exact ⟨Nat.ne_of_lt b0, b2⟩) (Heap.get?_push_of_some _ (Heap.get?_push_of_some _ e))
    · rcases r2 with e | fl2
      · exact hr2
      cases fl2 with
      | ret v =>
        obtain ⟨rfl, g, t, c, rfl, hS, hc, hk⟩ := hr2
        repeat (any_goals (first | assumption | wp_step))
        exact k _ _ _ hS hc hk
      | _ => exact hr2.elim
  | _ => exact hr.elim
end
section
variable {X : Cx}
theorem cr_setL (hc : X.calm = true) : CallR X (.type "set") (fun vs H Q => ∃ (l : Addr) (ns : List Int), vs = [V.ref l] ∧ SqL X.K H l (ns.map V.int) ∧ ns.length + 1 < scanBound ∧
    ∀ p c, H p = none → c ≤ ns.length → Q (.ref p) (upd H p (SetO X.w p (fun j => decide (j ∈ ns)) c))) := by
  intro pins s σ H xs us Q I r h
  obtain ⟨l, ns, rfl, hl, room, q⟩ := h
  rw [Vals.ref1 r]
  obtain ⟨its, rv, pl, hz⟩ := I.list hl
  refine set_of_list ns (I.ok.hd hc) pl.isList (by simpa using ints_of_vals rv) room fun g t c R hc' k => ?_
  have hn : H s.heap.objs.size = none := I.hok.fresh (Nat.le_refl _)
  exact ⟨.ref _, _, I.laid (a := s.heap.objs.size) (t' := t) k (Nat.le_refl _) (setO_new R), rfl, q _ c hn hc'⟩
end
end Vx
namespace Vx
open PySem PySem.Spec PyProof.Rows L2
/-! ### ascending lists -/
theorem asc_eq : ∀ {l m : List Int}, l.Pairwise (· < ·) → m.Pairwise (· < ·) → (∀ k, k ∈ l ↔ k ∈ m) → l = m
  | [], [], _, _, _ => rfl
  | [], y :: m, _, _, h => absurd ((h y).mpr List.mem_cons_self) (by simp)
  | x :: l, [], _, _, h => absurd ((h x).mp List.mem_cons_self) (by simp)
  | x :: l, y :: m, hl, hm, h => by
    obtain ⟨h1, h2⟩ := List.pairwise_cons.mp hl
    obtain ⟨h3, h4⟩ := List.pairwise_cons.mp hm
    have e : x = y := by
      rcases List.mem_cons.mp ((h x).mp List.mem_cons_self) with e | e
      · exact e
      · rcases List.mem_cons.mp ((h y).mpr List.mem_cons_self) with e2 | e2
        · exact e2.symm
        · have a := h3 _ e
          have b := h1 _ e2
          omega
    subst e
    rw [asc_eq h2 h4 fun k => ?_]
    have q := h k
    constructor
    · intro hk
      rcases List.mem_cons.mp (q.mp (List.mem_cons_of_mem _ hk)) with e | e
      · exact absurd (h1 _ hk) (by omega)
      · exact e
    · intro hk
      rcases List.mem_cons.mp (q.mpr (List.mem_cons_of_mem _ hk)) with e | e
      · exact absurd (h3 _ hk) (by omega)
      · exact e
/-! ### data -/
theorem eqvAll_ints : ∀ (l m : List Int), PyData.eqvAll (l.map PyData.int) (m.map PyData.int) = decide (l = m)
  | [], [] => by simp [PyData.eqvAll]
  | [], y :: m => by simp [PyData.eqvAll]
  | x :: l, [] => by simp [PyData.eqvAll]
  | x :: l, y :: m => by
    show (PyData.eqv (.int x) (.int y) && PyData.eqvAll (l.map PyData.int) (m.map PyData.int)) = _
    rw [eqvAll_ints l m]
    show ((x == y) && decide (l = m)) = _
    by_cases e : x = y <;> by_cases e2 : l = m <;> simp [e, e2]
theorem eqv_tupI (l m : List Int) : PyData.eqv (.tuple (l.map PyData.int)) (.tuple (m.map PyData.int)) = decide (l = m) := eqvAll_ints l m
theorem eqv_lstI (l m : List Int) : PyData.eqv (.list (l.map PyData.int)) (.list (m.map PyData.int)) = decide (l = m) := eqvAll_ints l m
theorem dpAll_ints {K : PySem.W.Frag} {H : Hp} : ∀ l : List Int, DpAll K H (l.map V.int) (l.map PyData.int)
  | [] => .nil
  | x :: l => .cons (.int x) (dpAll_ints l)
theorem dp_tupI {K : PySem.W.Frag} {H : Hp} {a : Addr} {l : List Int} (h : SqT K H a (l.map V.int)) : Dp K H (.ref a) (.tuple (l.map PyData.int)) := .tup h (dpAll_ints l)
theorem dp_lstI {K : PySem.W.Frag} {H : Hp} {a : Addr} {l : List Int} (h : SqL K H a (l.map V.int)) : Dp K H (.ref a) (.list (l.map PyData.int)) := .lst h (dpAll_ints l)
theorem inV_ints (x : Int) : ∀ l : List Int, inV (.int x) (l.map V.int) = decide (x ∈ l)
  | [] => by simp [inV]
  | y :: l => by
    have ih := inV_ints x l
    unfold inV at ih ⊢
    rw [List.map_cons, List.any_cons, ih]
    show ((y == x) || decide (x ∈ l)) = _
    by_cases e : y = x
    · simp [e]
    · have e' : ¬ x = y := fun z => e z.symm
      simp [e, e']
theorem flat_ints (l : List Int) : (l.map V.int).all flatV = true := by
  rw [List.all_map]
  exact List.all_eq_true.mpr fun _ _ => rfl
end Vx
namespace Vx
open PySem PySem.Spec PyProof.Rows L2
theorem canAll_ints : ∀ l : List Int, PyData.canLayAll0 (l.map PyData.int) = true
  | [] => by simp [PyData.canLayAll0]
  | x :: l => by
    rw [List.map_cons]
    simp [PyData.canLayAll0, PyData.canLay0, canAll_ints l]
theorem depAll_ints : ∀ l : List Int, PyData.depthAll (l.map PyData.int) = 0
  | [] => by simp [PyData.depthAll]
  | x :: l => by
    rw [List.map_cons]
    simp [PyData.depthAll, PyData.depth, depAll_ints l]
theorem shaped_tupI (l : List Int) : SeqAt.shaped (.tuple (l.map PyData.int)) = true := by
  unfold SeqAt.shaped
  simp [PyData.canLay0, PyData.depth, canAll_ints, depAll_ints]
theorem shaped_lstI (l : List Int) : SeqAt.shaped (.list (l.map PyData.int)) = true := by
  unfold SeqAt.shaped
  simp [PyData.canLay0, PyData.depth, canAll_ints, depAll_ints]
theorem tyesT {σ : L2.St} {H : Hp} {A B : Hp → Prop} (h : A H) : tYes σ H (fun b H3 => if b = true then A H3 else B H3) := h
theorem item_ints {xs : List Int} {i : Nat} {x : V} (h : (xs.map V.int)[i]? = some x) : ∃ z, x = .int z ∧ xs[i]? = some z ∧ z ∈ xs := by
  rw [List.getElem?_map] at h
  cases e : xs[i]? with
  | none => rw [e] at h; cases h
  | some z =>
    rw [e] at h
    exact ⟨z, (Option.some.inj h).symm, rfl, List.mem_of_getElem? e⟩
theorem at_ints {xs : List Int} {k : Int} (h0 : 0 ≤ k) (h1 : k < (xs.length : Int)) : ∃ z, z ∈ xs ∧ atI (xs.map V.int) k = some (.int z) := by
  have hj : k.toNat < xs.length := by omega
  refine ⟨xs[k.toNat], List.getElem_mem hj, ?_⟩
  refine at_of (j := k.toNat) (by omega) ?_
  rw [List.getElem?_map, List.getElem?_eq_getElem hj]
  rfl
theorem mem_ins {ys : List Int} {j : Nat} {y k : Int} (hy : y ∈ ys) : k ∈ ys.take j ++ [y] ++ ys.drop j ↔ k ∈ ys := by
  have e : k ∈ ys ↔ k ∈ ys.take j ∨ k ∈ ys.drop j := by rw [← List.mem_append, List.take_append_drop]
  rw [List.mem_append, List.mem_append, List.mem_singleton, e]
  constructor
  · rintro ((h | h) | h)
    · exact .inl h
    · subst h
      exact e.mp hy
    · exact .inr h
  · rintro (h | h)
    · exact .inl (.inl h)
    · exact .inr h
theorem madeS {C : Addr} {H : Hp} {x dx : Addr} (nx : H x = none) (nd : H dx = none) : Same H (upd (upd H dx (.own x)) x (.ins C dx [])) := fun b o e => by
  rw [upd_ne (ne_of_none e nx), upd_ne (ne_of_none e nd)]
  exact e
theorem pe_gcx {X : Cx} {x : Str} {pos : Pos} {v : V} (hg : Gl X x) (h : ∃ u, X.mg x = some u ∧ RelV v u) (hd : (x == ("__debug__" : Str)) = false := by decide +kernel) : PE X (.Name x pos) (tC v) := by
  obtain ⟨u, h, r⟩ := h
  exact pe_glob hg h r hd
theorem call_intB {X : Cx} : CallR X (.type "int") (fun xs H Q => ∃ k, xs = [.bl k] ∧ Q (.int (if k = true then 1 else 0)) H) := fun pins s σ H xs us Q I r h => call_int1 pins s σ H xs us Q I r (.inr h)
theorem cut_lo_len (z : Str) {k : Int} (h : 0 ≤ k) : (cutS z none (some k)).length ≤ k.toNat := by
  show (List.toArray _).size ≤ _
  rw [List.size_toArray, List.length_take]
  show min (HT.sIx z.length z.length (some k) - 0) _ ≤ _
  have e : HT.sIx z.length z.length (some k) = min k.toNat z.length := by
    show (if k < 0 then (k + (z.length : Int)).toNat else min k.toNat z.length) = _
    rw [if_neg (by omega)]
  omega
theorem cut_hi_len (z : Str) {k : Int} (h : 0 ≤ k) : (cutS z (some k) none).length ≤ z.length - k.toNat := by
  show (List.toArray _).size ≤ _
  have e : HT.sIx z.length 0 (some k) = min k.toNat z.length := by
    show (if k < 0 then (k + (z.length : Int)).toNat else min k.toNat z.length) = _
    rw [if_neg (by omega)]
  rw [List.size_toArray, List.length_take, List.length_drop, e]
  show min (z.length - min k.toNat z.length) (z.cps.toList.length - min k.toNat z.length) ≤ _
  have : z.cps.toList.length = z.length := Array.length_toList
  omega
end Vx
namespace Vx
open PySem PySem.Spec PyProof.Rows L2
/-- isinstance of the caught error, its class told by the reading -/
theorem call_isE2 {X : Cx} {a D : Addr} {oe : Obj} {cls : Value} {d : Option Addr} {pn : List (Addr × Obj)} (C : ExcC X.K D) (hz : Zc cls d oe) (hf : ∃ vs, oe.data = .fields vs) :
    CallR (X.suite a ((a, oe) :: pn)) (.builtin "isinstance") (fun xs H Q => cls = .ref D ∧ d = none ∧ rIsE X.K D a xs H Q) := fun pins s σ H xs us Q I r h => by
  obtain ⟨h1, h2, h3⟩ := h
  subst h1 h2
  exact call_isE C hz hf pins s σ H xs us Q I r h3
theorem kit_sub {K : PySem.W.Frag} {D C : Addr} {b : Bool} (hc : PySem.W.isClsIn K C = true) (ht : PySem.W.typeIn K (.ref C) = some (.type "type")) (h1 : PySem.W.subIn K (.ref D) (.ref D) = some true) (h2 : PySem.W.subIn K (.ref D) (.ref C) = some b) :
    PySem.W.kitOne K (.ref D) (.ref C) = some b := by
  unfold PySem.W.kitOne
  by_cases e : D = C
  · subst e
    rw [h1] at h2
    rw [if_pos (beq_self_eq_true _)]
    exact h2
  · rw [if_neg (by intro q; exact e (Value.ref.inj (beq_iff_eq.mp q)))]
    unfold PySem.W.kitCls
    have hc' : (PySem.W.clsIn K C).isSome = true := hc
    have e2 : ((PySem.W.clsIn K C).isSome && PySem.W.typeIn K (.ref C) == some (.type "type")) = true := by rw [hc', ht]; rfl
    show (if ((PySem.W.clsIn K C).isSome && PySem.W.typeIn K (.ref C) == some (.type "type")) = true then PySem.W.subIn K (.ref D) (.ref C) else none) = some b
    rw [if_pos e2]
    exact h2
theorem kit_ve {K : PySem.W.Frag} {D : Addr} {b : Bool} (h2 : PySem.W.subIn K (.ref D) (.type "ValueError") = some b) : PySem.W.kitOne K (.ref D) (.type "ValueError") = some b := by
  unfold PySem.W.kitOne
  rw [if_neg (by intro q; cases (beq_iff_eq.mp q))]
  show (if PySem.W.kitMeta "ValueError" = true then PySem.W.subIn K (.ref D) (.type "ValueError") else none) = some b
  rw [if_pos (by decide +kernel)]
  exact h2
end Vx
namespace Vx
open PySem PySem.Spec PyProof.Rows L2
/-! ### pairs and lists of them -/
abbrev Pr := Int × Int
def pr (l : List Int) : Pr := (l.getD 0 0, l.getD 1 0)
def Cells (H : Hp) (l : Addr) (ps : List Pr) : Prop :=
  ∃ ts : List (Addr × Pr), H l = some (.lst (ts.map fun t => V.ref t.1)) ∧ (∀ t ∈ ts, H t.1 = some (.tup [.int t.2.1, .int t.2.2])) ∧ ts.map (·.2) = ps
theorem Cells.up {H H' : Hp} {l : Addr} {ps : List Pr} (e : Same H H') (h : Cells H l ps) : Cells H' l ps := by
  obtain ⟨ts, h1, h2, h3⟩ := h
  exact ⟨ts, e _ _ h1, fun t m => e _ _ (h2 t m), h3⟩
def SetP (P : Program) (w : World) (H : Hp) (a : Addr) (ps : List Pr) : Prop :=
  ∃ L : List (Addr × List Int), H a = some (SetTO P w a L) ∧ (∀ q ∈ L, q.2.length = 2 ∧ H q.1 = some (.tup (q.2.map V.int))) ∧ ∀ x, x ∈ L.map (fun q => pr q.2) ↔ x ∈ ps
abbrev ltP (p q : Pr) : Prop := SrtO.lexB p q = true
theorem pr_inj : ∀ {l m : List Int}, l.length = 2 → m.length = 2 → pr l = pr m → l = m
  | [a, b], [c, d], _, _, h => by
    have h1 : a = c := congrArg Prod.fst h
    have h2 : b = d := congrArg Prod.snd h
    rw [h1, h2]
theorem len2 : ∀ {l : List Int}, l.length = 2 → l = [(pr l).1, (pr l).2]
  | [a, b], _ => rfl
section
variable {P : Program} {w : World} {A : Around} {E : Value → Shared → Prop} {s : Shared}
def adr : Value → Addr
  | .ref a => a
  | _ => 0
/-- the set's members, sorted -/
theorem sorted_pairs {a : Addr} {L : List (Addr × List Int)} {es : Array (Int × Value)} {ep : Nat} {t : SetTable} {Q : Value → Shared → Prop} (R : SetTR P w s.heap a L es ep t) (hh : A.handled = none) (h2 : ∀ q ∈ L, q.2.length = 2)
    (hQ : ∀ s' p (ts : List (Addr × Pr)) (c : Nat), (∀ b o, s.heap.get? b = some o → s'.heap.get? b = some o) → s'.gens = s.gens → s'.os = s.os → s.heap.objs.size ≤ p →
      s'.heap.get? p = some (seqObj "list" (ts.map fun q => Value.ref q.1).toArray c) → (∀ q ∈ ts, ∃ r ∈ L, r.1 = q.1 ∧ pr r.2 = q.2) → (∀ x, x ∈ ts.map (·.2) ↔ x ∈ L.map fun q => pr q.2) → (ts.map (·.2)).Pairwise ltP → ts.length = L.length → Q (.ref p) s') :
    wpAny (model P w) A (call (.builtin "sorted") [.ref a]) Q E s := by
  have few := R.few
  obtain ⟨o, go, xo, dat⟩ := R.ob
  refine Calls.call_function_entry kind_sorted plain_sorted entry_sorted (args_sorted1 _) ?_
  unfold Builtin.«sorted»
  refine wpAny_bind (m := checkCount "sorted" 1 1 _) (wpAny_pure ?_)
  refine wpAny_bind (collect_set (A := A.in1) hh ⟨o, go, xo.1, dat⟩ R.fits (by rw [R.size]; unfold scanBound; omega) R.tab.ris R.led fun s1 vs keep sz gg oo pm => ?_)
  have em : es.toList.map (·.2) = L.map fun q => Value.ref q.1 := by
    rw [R.rows]
    show (L.map fun q => (thash P w q.2, Value.ref q.1)).map (·.2) = _
    rw [List.map_map] <;> rfl
  rw [em] at pm
  have vl : vs.length = L.length := by rw [pm.length_eq, List.length_map]
  have lim : vs.length ≤ sizeLine := by
    rw [sizeLine_eq]
    omega
  refine wpAny_bind (wpAny_newList ?_ lim)
  have gl : (s1.heap.push (seqObj "list" vs.toArray 0)).get? s1.heap.objs.size = some (seqObj "list" vs.toArray 0) := Heap.get?_push_size _ rfl
  generalize hh1 : s1.heap.push (seqObj "list" vs.toArray 0) = h1 at gl
  have keep1 : ∀ b u, s1.heap.get? b = some u → h1.get? b = some u := fun b u e => by
    rw [← hh1]
    exact Heap.get?_push_of_some _ e
  have tin : ∀ q ∈ L, TS.TupInts h1 (.ref q.1) q.2 := fun q m => tupInts_of (P := P) (w := w) (isT_keep (R.tup q m) fun b u e => keep1 b u (keep b u e))
  have mem : ∀ v ∈ vs, ∃ q ∈ L, v = Value.ref q.1 := fun v m => by
    obtain ⟨q, m1, e⟩ := List.mem_map.mp (pm.mem_iff.mp m)
    exact ⟨q, m1, e.symm⟩
  have key : ∀ q ∈ L, pr (TS.intsOf h1 (.ref q.1)) = pr q.2 := fun q m => by rw [(tin q m).ints]
  have isP : ∀ v ∈ vs, Srt.IsPair h1 v (pr (TS.intsOf h1 v)).1 (pr (TS.intsOf h1 v)).2 := fun v m => by
    obtain ⟨q, m1, rfl⟩ := mem v m
    rw [key q m1]
    have i := tin q m1
    have l2 := len2 (h2 q m1)
    rw [l2] at i
    obtain ⟨b, items, eb, ⟨o1, go1, co1, n1, do1⟩, ia⟩ := i
    cases eb
    obtain ⟨xs⟩ := items
    cases ia with
    | cons _ t1 ia =>
      cases ia with
      | cons _ t2 ia =>
        cases ia
        exact ⟨_, o1, t1, t2, n1, rfl, go1, co1, do1⟩
  refine wpAny_bind (wpAny_holding (wpAny_call_entry (s := { s1 with heap := h1 }) slot_list_sort ⟨_, gl, rfl⟩ entry_list_sort (SrtO.list_sort_ord (s := { s1 with heap := h1 }) (SrtO.swo_lex fun v => pr (TS.intsOf h1 v)) gl lim (fun two => SrtO.pairs_sortableO (by omega) isP fun o1 e => ?_) fun out srt stb => ⟨_, rfl, ?_⟩) (args_list_sort _)))
  · have e' : some o1 = some (seqObj "list" vs.toArray 0) := e.symm.trans gl
    cases e'
    intro c
    exact absurd (Value.type.inj c) (by decide)
  · obtain ⟨c, gc⟩ := sortedHeap_at (vs := vs) (out := out.toArray) gl
    have omem : ∀ v ∈ out, ∃ q ∈ L, v = Value.ref q.1 := fun v m => mem v (stb.perm.mem_iff.mp m)
    refine wpAny_pure ⟨_, rfl, hQ _ s1.heap.objs.size (out.map fun v => (adr v, pr (TS.intsOf h1 v))) c (fun b u e => ?_) gg oo sz ?_ ?_ ?_ ?_ ?_⟩
    · have g1 := keep b u e
      have lt1 := Heap.lt_size g1
      show (sortedHeap h1 s1.heap.objs.size vs out.toArray).get? b = some u
      rw [sortedHeap_old (Nat.ne_of_lt lt1) (Heap.lt_size (keep1 b u g1))]
      exact keep1 b u g1
    · have eo : (out.map fun v => (adr v, pr (TS.intsOf h1 v))).map (fun q => Value.ref q.1) = out := by
        rw [List.map_map]
        refine (List.map_congr_left fun v m => ?_).trans (List.map_id _)
        obtain ⟨q, _, rfl⟩ := omem v m
        rfl
      rw [eo]
      exact gc
    · intro q m
      obtain ⟨v, m1, rfl⟩ := List.mem_map.mp m
      obtain ⟨r, mr, rfl⟩ := omem v m1
      exact ⟨r, mr, rfl, (key r mr).symm⟩
    · intro x
      rw [List.map_map]
      constructor
      · intro m
        obtain ⟨v, m1, rfl⟩ := List.mem_map.mp m
        obtain ⟨r, mr, rfl⟩ := omem v m1
        exact List.mem_map.mpr ⟨r, mr, (key r mr).symm⟩
      · intro m
        obtain ⟨r, mr, rfl⟩ := List.mem_map.mp m
        exact List.mem_map.mpr ⟨.ref r.1, stb.perm.mem_iff.mpr (pm.mem_iff.mpr (List.mem_map.mpr ⟨r, mr, rfl⟩)), key r mr⟩
    · rw [List.map_map]
      have nd : ((L.map fun q => Value.ref q.1).map fun v => pr (TS.intsOf h1 v)).Nodup := by
        rw [List.map_map]
        refine List.pairwise_map.mpr ((List.pairwise_map.mp R.nd).imp_of_mem fun {q r} mq mr ne e => ne ?_)
        refine pr_inj (h2 q mq) (h2 r mr) ?_
        rw [← key q mq, ← key r mr]
        exact e
      have nd2 : (out.map fun v => pr (TS.intsOf h1 v)).Nodup := ((stb.perm.trans pm).map _).nodup_iff.mpr nd
      refine List.pairwise_map.mpr ((srt.and (List.pairwise_map.mp nd2)).imp fun {u v} h => ?_)
      have a1 := SrtO.lexB_no.mp h.1
      refine SrtO.lexB_iff.mpr ?_
      have a2 : ¬ ((pr (TS.intsOf h1 u)).1 = (pr (TS.intsOf h1 v)).1 ∧ (pr (TS.intsOf h1 u)).2 = (pr (TS.intsOf h1 v)).2) := fun e => h.2 (Prod.ext e.1 e.2)
      show (pr (TS.intsOf h1 u)).1 < (pr (TS.intsOf h1 v)).1 ∨ (pr (TS.intsOf h1 u)).1 = (pr (TS.intsOf h1 v)).1 ∧ (pr (TS.intsOf h1 u)).2 < (pr (TS.intsOf h1 v)).2
      omega
    · rw [List.length_map, stb.perm.length_eq, vl]
end
section
variable {X : Cx}
theorem cr_setP (hc : X.calm = true) (hu : X.A.units + 64 < cLine) : CallR X (.type "set") (fun xs H Q => ∃ l ps, xs = [V.ref l] ∧ Cells H l ps ∧ ps.length < 64 ∧
    ∀ a H', Same H H' → H a = none → SetP X.prog X.w H' a ps → Q (.ref a) H') := by
  intro pins s σ H xs us Q I r h
  obtain ⟨l, ps, rfl, ⟨ts, hl, ht, rfl⟩, few, q⟩ := h
  rw [List.length_map] at few
  refine cr_setOfT hc hu pins s σ H [V.ref l] us Q I r ⟨l, ts.map fun t => (t.1, [t.2.1, t.2.2]), rfl, ?_, ?_, by rw [List.length_map]; exact few, fun a L n sub all => ?_⟩
  · rw [List.map_map]
    exact lst_of hl
  · intro p m
    obtain ⟨t, m1, rfl⟩ := List.mem_map.mp m
    exact tup_of (ht t m1)
  · refine q a _ (newS n) n ⟨L, upd_same, fun p m => ?_, fun x => ⟨fun m => ?_, fun m => ?_⟩⟩
    · obtain ⟨t, m1, rfl⟩ := List.mem_map.mp (sub p m)
      exact ⟨rfl, newS n _ _ (ht t m1)⟩
    · obtain ⟨p, m1, rfl⟩ := List.mem_map.mp m
      obtain ⟨t, m2, rfl⟩ := List.mem_map.mp (sub p m1)
      exact List.mem_map.mpr ⟨t, m2, rfl⟩
    · obtain ⟨t, m1, rfl⟩ := List.mem_map.mp m
      obtain ⟨p, m2, e⟩ := List.mem_map.mp (all _ (List.mem_map.mpr ⟨t, m1, rfl⟩))
      refine List.mem_map.mpr ⟨p, m2, ?_⟩
      rw [e]
      rfl
theorem cr_sortedP (hc : X.calm = true) : CallR X (.builtin "sorted") (fun xs H Q => ∃ a ps, xs = [V.ref a] ∧ SetP X.prog X.w H a ps ∧
    ∀ p H' qs, Same H H' → H p = none → Cells H' p qs → qs.Pairwise ltP → (∀ x, x ∈ qs ↔ x ∈ ps) → qs.length < 64 → Q (.ref p) H') := by
  intro pins s σ H vs us Q I r h
  obtain ⟨a, ps, rfl, ⟨L, ha, hL, mem⟩, q⟩ := h
  have R0 : SetT0 X.prog X.w s.heap a L := (I.hok a _ ha).1
  obtain ⟨es, ep, t, R⟩ := R0.full fun p hp => I.isT (tup_of (hL p hp).2)
  rw [Vals.ref1 r]
  refine sorted_pairs R (I.ok.hd hc) (fun q m => (hL q m).1) fun s' p ts c k g o hp hg own all pw le => ?_
  have few := R.few
  have lim : (ts.map fun q => V.ref q.1).length ≤ sizeLine := by
    rw [List.length_map, sizeLine_eq]
    omega
  have n : H p = none := I.hok.fresh hp
  have vals : ∀ ts : List (Addr × Pr), Vals (ts.map fun q => V.ref q.1) (ts.map fun q => Value.ref q.1) := fun ts => by
    induction ts with
    | nil => exact .nil
    | cons t ts ih => exact .cons rfl ih
  have J : Inv X pins σ (upd H p (.lst (ts.map fun q => V.ref q.1))) { s with heap := s'.heap, gens := s'.gens, drawn := s'.drawn, toks := s'.toks } :=
    I.call (ch := []) (Un.laid k hp n) (I.hok.laid k hp ⟨lim, _, c, vals ts, hg⟩) (by rw [g]; exact I.bare) (fun _ z => nomatch z)
  have e : s' = { s with heap := s'.heap, gens := s'.gens, drawn := s'.drawn, toks := s'.toks } := by
    obtain ⟨_, _, _, _, _⟩ := s'
    obtain ⟨_, _, _, _, _⟩ := s
    cases o
    rfl
  rw [e]
  have sm : Same H (upd H p (.lst (ts.map fun q => V.ref q.1))) := newS n
  refine ⟨.ref p, _, J, rfl, q p _ (ts.map (·.2)) sm n ⟨ts, upd_same, fun t m => ?_, rfl⟩ pw (fun x => (all x).trans (mem x)) (by rw [List.length_map, le]; exact few)⟩
  obtain ⟨r, mr, e1, e2⟩ := own t m
  have z := sm _ _ (hL r mr).2
  rw [len2 (hL r mr).1, e1, e2] at z
  exact z
end
section
variable {X : Cx}
theorem pg_tupK {K : PySem.W.Frag} {es : List Expr} {k : Nat} {t : TGs} {n : Nat} {pos : Pos} (hK : X.K = K) (hc : X.calm = true) (h : PGs X es t)
    (hn : (assignEach es X.env).length = n := by rfl) (hst : (assignEach es X.env).findIdx? (·.1) = none := by rfl) : PG X (.Tuple es k pos) (gTup K n t) := by
  subst hK
  exact pg_tup hc h hn hst
theorem ix_tupK {K : PySem.W.Frag} (hK : X.K = K) : IxR X (rIxT K) := by
  subst hK
  exact ix_tup
end
/-! ### comprehensions over such a list -/
theorem item_cells {H : Hp} {ts : List (Addr × Pr)} {ps : List Pr} {i : Nat} {x : V} (h : (ts.map fun t => V.ref t.1)[i]? = some x) (e : ts.map (·.2) = ps) :
    ∃ t ∈ ts, x = .ref t.1 ∧ ps[i]? = some t.2 := by
  rw [List.getElem?_map] at h
  cases q : ts[i]? with
  | none => rw [q] at h; cases h
  | some t =>
    rw [q] at h
    refine ⟨t, List.mem_of_getElem? q, (Option.some.inj h).symm, ?_⟩
    rw [← e, List.getElem?_map, q]
    rfl
theorem lc_cells {K : PySem.W.Frag} {l : Addr} {ps : List Pr} {g : TG} {tt : TT} {te : TE} {vs : List Nat} {σ : L2.St} {H1 : Hp} {D : Addr} {Qd : Hp → Prop} (f : Pr → Pr) (hC : Cells H1 l ps) (nD : H1 D = none) (few : ps.length < sizeLine)
    (hs : ∀ (t : Addr) (x : Pr) (H' : Hp) (Po : V → Hp → Prop) (Pn : Hp → Prop), Same H1 H' → H' t = some (.tup [.int x.1, .int x.2]) → (∀ t2, H' t2 = none → Po (.ref t2) (upd H' t2 (.tup [.int (f x).1, .int (f x).2]))) →
      g (.ref t) (wipe σ vs) H' fun σ2 H2 => wipe σ2 vs = wipe σ vs ∧ tt σ2 H2 fun b H3 => if b = true then te σ2 H3 Po else Pn H3)
    (hd : ∀ H', Same H1 H' → Cells H' D (ps.map f) → Qd H') :
    ∃ W : Nat → Nat → Hp → Prop, (∃ m, W 0 m (upd H1 D (.lst []))) ∧ ∀ i m H, W i m H →
      ((Itl K l).stop i H ∧ Qd H) ∨ ((Itl K l).go i H ∧ ∃ Nx : Hp → Prop, (∀ H', Nx H' → ∃ m', m' < m ∧ W (i + 1) m' H') ∧ ∀ x H', (Itl K l).yld i H x H' → g x (wipe σ vs) H' fun σ2 H2 => wipe σ2 vs = wipe σ vs ∧ tt σ2 H2 fun b H3 =>
        if b = true then te σ2 H3 fun y H4 => ∃ acc, H4 D = some (.lst acc) ∧ acc.length < sizeLine ∧ Nx (upd H4 D (.lst (acc ++ [y]))) else Nx H3) := by
  obtain ⟨ts, hl, ht, rfl⟩ := hC
  rw [List.length_map] at few
  refine lc_list (K := K) (a := l) (xs := ts.map fun t => V.ref t.1) (fun i H' => Same H1 H' ∧ ∃ us : List (Addr × Pr), H' D = some (.lst (us.map fun t => V.ref t.1)) ∧ (∀ t ∈ us, H' t.1 = some (.tup [.int t.2.1, .int t.2.2])) ∧ us.map (·.2) = ((ts.map (·.2)).take i).map f)
    ⟨newS nD, [], upd_same, fun _ m => (by cases m), rfl⟩ (fun i H' _ p => lst_of (p.1 _ _ hl)) ?_ ?_
  · rintro i x H' hi ⟨sm, us, h1, h2, h3⟩
    obtain ⟨t, mt, rfl, hp⟩ := item_cells (H := H') hi rfl
    have ul : us.length = i := by
      have z := congrArg List.length h3
      rw [List.length_map, List.length_map, List.length_take, List.length_map] at z
      have := (List.getElem?_eq_some_iff.mp hi).1
      rw [List.length_map] at this
      omega
    refine hs t.1 t.2 H' _ _ sm (sm _ _ (ht t mt)) fun t2 n2 => ⟨us.map fun t => V.ref t.1, ?_, ?_, ?_, us ++ [(t2, f t.2)], ?_, ?_, ?_⟩
    · exact newS n2 _ _ h1
    · rw [List.length_map, ul]
      have := (List.getElem?_eq_some_iff.mp hi).1
      rw [List.length_map] at this
      omega
    · exact mutS (sm.trans (newS n2)) nD
    · rw [upd_same, List.map_append]
      rfl
    · have nD2 : t2 ≠ D := fun e => by
        rw [e, h1] at n2
        cases n2
      intro u m
      rcases List.mem_append.mp m with m | m
      · have z := h2 u m
        rw [upd_ne (fun e => ?_)]
        · exact newS n2 _ _ z
        · rw [e, h1] at z
          cases z
      · rw [List.mem_singleton.mp m, upd_ne nD2, upd_same]
    · rw [List.map_append, h3, take_next hp, List.map_append]
      rfl
  · rintro H' ⟨sm, us, h1, h2, h3⟩
    refine hd H' sm ⟨us, h1, h2, ?_⟩
    rw [h3, List.length_map, List.take_of_length_le (by rw [List.length_map]; exact Nat.le_refl _)]
theorem lc_nums {K : PySem.W.Frag} {l : Addr} {ps : List Pr} {g : TG} {tt : TT} {te : TE} {vs : List Nat} {σ : L2.St} {H1 : Hp} {D : Addr} {Qd : Hp → Prop} (f : Pr → Int) (hC : Cells H1 l ps) (nD : H1 D = none) (few : ps.length < sizeLine)
    (hs : ∀ (t : Addr) (x : Pr) (H' : Hp) (Po : V → Hp → Prop) (Pn : Hp → Prop), Same H1 H' → H' t = some (.tup [.int x.1, .int x.2]) → Po (.int (f x)) H' →
      g (.ref t) (wipe σ vs) H' fun σ2 H2 => wipe σ2 vs = wipe σ vs ∧ tt σ2 H2 fun b H3 => if b = true then te σ2 H3 Po else Pn H3)
    (hd : ∀ H', Same H1 H' → H' D = some (.lst ((ps.map f).map V.int)) → Qd H') :
    ∃ W : Nat → Nat → Hp → Prop, (∃ m, W 0 m (upd H1 D (.lst []))) ∧ ∀ i m H, W i m H →
      ((Itl K l).stop i H ∧ Qd H) ∨ ((Itl K l).go i H ∧ ∃ Nx : Hp → Prop, (∀ H', Nx H' → ∃ m', m' < m ∧ W (i + 1) m' H') ∧ ∀ x H', (Itl K l).yld i H x H' → g x (wipe σ vs) H' fun σ2 H2 => wipe σ2 vs = wipe σ vs ∧ tt σ2 H2 fun b H3 =>
        if b = true then te σ2 H3 fun y H4 => ∃ acc, H4 D = some (.lst acc) ∧ acc.length < sizeLine ∧ Nx (upd H4 D (.lst (acc ++ [y]))) else Nx H3) := by
  obtain ⟨ts, hl, ht, rfl⟩ := hC
  rw [List.length_map] at few
  refine lc_list (K := K) (a := l) (xs := ts.map fun t => V.ref t.1) (fun i H' => Same H1 H' ∧ H' D = some (.lst ((((ts.map (·.2)).take i).map f).map V.int)))
    ⟨newS nD, upd_same⟩ (fun i H' _ p => lst_of (p.1 _ _ hl)) ?_ ?_
  · rintro i x H' hi ⟨sm, h1⟩
    obtain ⟨t, mt, rfl, hp⟩ := item_cells (H := H') hi rfl
    refine hs t.1 t.2 H' _ _ sm (sm _ _ (ht t mt)) ⟨_, h1, ?_, mutS sm nD, ?_⟩
    · rw [List.length_map, List.length_map, List.length_take, List.length_map]
      omega
    · rw [upd_same, take_next hp, List.map_append, List.map_append]
      rfl
  · rintro H' ⟨sm, h1⟩
    rw [List.length_map, List.take_of_length_le (by rw [List.length_map]; exact Nat.le_refl _)] at h1
    exact hd H' sm h1
/-! ### one such list -/
def CanP (ps qs : List Pr) : Prop := qs.Pairwise ltP ∧ ∀ x, x ∈ qs ↔ x ∈ ps
theorem ltP_iff {p q : Pr} : ltP p q ↔ p.1 < q.1 ∨ (p.1 = q.1 ∧ p.2 < q.2) := SrtO.lexB_iff
theorem ascP_eq : ∀ {l m : List Pr}, l.Pairwise ltP → m.Pairwise ltP → (∀ k, k ∈ l ↔ k ∈ m) → l = m
  | [], [], _, _, _ => rfl
  | [], y :: m, _, _, h => absurd ((h y).mpr List.mem_cons_self) (by simp)
  | x :: l, [], _, _, h => absurd ((h x).mp List.mem_cons_self) (by simp)
  | x :: l, y :: m, hl, hm, h => by
    obtain ⟨h1, h2⟩ := List.pairwise_cons.mp hl
    obtain ⟨h3, h4⟩ := List.pairwise_cons.mp hm
    have irr : ∀ a b : Pr, ltP a b → ltP b a → False := fun a b p q => by
      have p := ltP_iff.mp p
      have q := ltP_iff.mp q
      omega
    have e : x = y := by
      rcases List.mem_cons.mp ((h x).mp List.mem_cons_self) with e | e
      · exact e
      · rcases List.mem_cons.mp ((h y).mpr List.mem_cons_self) with e2 | e2
        · exact e2.symm
        · exact (irr _ _ (h3 _ e) (h1 _ e2)).elim
    subst e
    rw [ascP_eq h2 h4 fun k => ?_]
    have q := h k
    constructor
    · intro hk
      rcases List.mem_cons.mp (q.mp (List.mem_cons_of_mem _ hk)) with e | e
      · have z := h1 _ hk
        rw [e] at z
        exact (irr _ _ z z).elim
      · exact e
    · intro hk
      rcases List.mem_cons.mp (q.mpr (List.mem_cons_of_mem _ hk)) with e | e
      · have z := h3 _ hk
        rw [e] at z
        exact (irr _ _ z z).elim
      · exact e
theorem canP_eq {ps qs m : List Pr} (h : CanP ps qs) (h2 : m.Pairwise ltP) (h3 : ∀ k, k ∈ ps ↔ k ∈ m) : qs = m := ascP_eq h.1 h2 fun k => (h.2 k).trans (h3 k)
/-! ### as data -/
def pd (p : Pr) : PyData := .tuple [.int p.1, .int p.2]
theorem eqv_pd (p q : Pr) : PyData.eqv (pd p) (pd q) = decide (p = q) := by
  show ((p.1 == q.1) && ((p.2 == q.2) && true)) = _
  obtain ⟨a, b⟩ := p
  obtain ⟨c, d⟩ := q
  by_cases e1 : a = c <;> by_cases e2 : b = d <;> simp [e1, e2]
theorem eqvAll_pd : ∀ (l m : List Pr), PyData.eqvAll (l.map pd) (m.map pd) = decide (l = m)
  | [], [] => by simp [PyData.eqvAll]
  | [], y :: m => by simp [PyData.eqvAll]
  | x :: l, [] => by simp [PyData.eqvAll]
  | x :: l, y :: m => by
    show (PyData.eqv (pd x) (pd y) && PyData.eqvAll (l.map pd) (m.map pd)) = _
    rw [eqvAll_pd l m, eqv_pd]
    by_cases e : x = y <;> by_cases e2 : l = m <;> simp [e, e2]
theorem eqv_cells (l m : List Pr) : PyData.eqv (.list (l.map pd)) (.list (m.map pd)) = decide (l = m) := eqvAll_pd l m
theorem canAll_pd : ∀ l : List Pr, PyData.canLayAll0 (l.map pd) = true
  | [] => by simp [PyData.canLayAll0]
  | x :: l => by
    rw [List.map_cons]
    simp [PyData.canLayAll0, PyData.canLay0, pd, canAll_pd l]
theorem depAll_pd : ∀ l : List Pr, PyData.depthAll (l.map pd) ≤ 1
  | [] => by simp [PyData.depthAll]
  | x :: l => by
    rw [List.map_cons]
    have := depAll_pd l
    simp only [PyData.depthAll, PyData.depth, pd]
    omega
theorem shaped_cells (l : List Pr) : SeqAt.shaped (.list (l.map pd)) = true := by
  unfold SeqAt.shaped
  have := depAll_pd l
  simp only [PyData.canLay0, PyData.depth, canAll_pd]
  simp
  omega
theorem dp_cells {K : PySem.W.Frag} {H : Hp} {a : Addr} {ps : List Pr} (h : Cells H a ps) : Dp K H (.ref a) (.list (ps.map pd)) := by
  obtain ⟨ts, hl, ht, rfl⟩ := h
  refine .lst (lst_of hl) ?_
  have go : ∀ us : List (Addr × Pr), (∀ t ∈ us, H t.1 = some (.tup [.int t.2.1, .int t.2.2])) → DpAll K H (us.map fun t => V.ref t.1) ((us.map (·.2)).map pd) := fun us => by
    induction us with
    | nil => exact fun _ => .nil
    | cons t us ih => exact fun h => .cons (.tup (tup_of (h t List.mem_cons_self)) (.cons (.int _) (.cons (.int _) .nil))) (ih fun u m => h u (List.mem_cons_of_mem _ m))
  exact go ts ht
/-! ### sorted, of such a list -/
def kH (H : Hp) : V → Pr
  | .ref a => match H a with
    | some (.tup [.int x, .int y]) => (x, y)
    | _ => (0, 0)
  | _ => (0, 0)
def adV : V → Addr
  | .ref a => a
  | _ => 0
theorem kH_at {H : Hp} {a : Addr} {x : Pr} (h : H a = some (.tup [.int x.1, .int x.2])) : kH H (.ref a) = x := by
  show (match H a with
    | some (.tup [.int x, .int y]) => (x, y)
    | _ => (0, 0)) = x
  rw [h]
theorem ltP_irr {a b : Pr} (p : ltP a b) (q : ltP b a) : False := by
  have p := ltP_iff.mp p
  have q := ltP_iff.mp q
  omega
theorem nodup_lt {l : List Pr} (h : l.Pairwise ltP) : l.Nodup := h.imp fun {a b} q e => by
  subst e
  exact ltP_irr q q
theorem cr_sortedC {X : Cx} : CallR X (.builtin "sorted") (fun xs H Q => ∃ l ps, xs = [V.ref l] ∧ Cells H l ps ∧ ps.Nodup ∧
    ∀ p H' qs, Same H H' → H p = none → Cells H' p qs → CanP ps qs → qs.length = ps.length → Q (.ref p) H') := by
  intro pins s σ H xs us Q I r h
  obtain ⟨l, ps, rfl, ⟨ts, hl, ht, rfl⟩, nd, q⟩ := h
  refine cr_sortedPO pins s σ H [V.ref l] us Q I r ⟨l, ts.map fun t => V.ref t.1, kH H, rfl, lst_of hl, fun x m => ?_, fun ys p srt stb n => ?_⟩
  · obtain ⟨t, m1, rfl⟩ := List.mem_map.mp m
    have g := ht t m1
    refine ⟨t.1, rfl, ?_⟩
    rw [kH_at g]
    exact g
  · have own : ∀ y ∈ ys, ∃ t ∈ ts, y = V.ref t.1 := fun y m => by
      obtain ⟨t, m1, e⟩ := List.mem_map.mp (stb.perm.mem_iff.mp m)
      exact ⟨t, m1, e.symm⟩
    have key : ∀ t ∈ ts, kH H (.ref t.1) = t.2 := fun t m => kH_at (ht t m)
    have pm : (ys.map (kH H)).Perm (ts.map (·.2)) := by
      have z := stb.perm.map (kH H)
      rw [List.map_map] at z
      rw [show ts.map (·.2) = ts.map (kH H ∘ fun t => V.ref t.1) from List.map_congr_left fun t m => (key t m).symm]
      exact z
    have sm : Same H (upd H p (.lst ys)) := newS n
    have eo : (ys.map fun v => (adV v, kH H v)).map (fun t => V.ref t.1) = ys := by
      rw [List.map_map]
      refine (List.map_congr_left fun v m => ?_).trans (List.map_id _)
      obtain ⟨t, _, rfl⟩ := own v m
      rfl
    refine q p _ (ys.map (kH H)) sm n ⟨ys.map fun v => (adV v, kH H v), ?_, fun u m => ?_, ?_⟩ ⟨?_, fun x => pm.mem_iff⟩ pm.length_eq
    · rw [eo, upd_same]
    · obtain ⟨v, m1, rfl⟩ := List.mem_map.mp m
      obtain ⟨t, m2, rfl⟩ := own v m1
      refine sm _ _ ?_
      show H t.1 = _
      rw [key t m2]
      exact ht t m2
    · rw [List.map_map]
      rfl
    · have nd2 : (ys.map (kH H)).Nodup := pm.nodup_iff.mpr nd
      refine List.pairwise_map.mpr ((srt.and (List.pairwise_map.mp nd2)).imp fun {u v} h => ?_)
      have a1 := SrtO.lexB_no.mp h.1
      have a2 : ¬ ((kH H u).1 = (kH H v).1 ∧ (kH H u).2 = (kH H v).2) := fun e => h.2 (Prod.ext e.1 e.2)
      refine ltP_iff.mpr ?_
      omega
/-! ### dicts whose keys are such pairs -/
def keyP (x : Pr) : List L2.Key := [Sum.inl x.1, Sum.inl x.2]
theorem keyP_inj {x y : Pr} (h : keyP x = keyP y) : x = y := by
  injection h with h1 h2
  injection h2 with h2 _
  exact Prod.ext (Sum.inl.inj h1) (Sum.inl.inj h2)
def KeysP (kvs : List (List L2.Key × V)) (ps : List Pr) : Prop := kvs.map (·.1) = ps.map keyP ∧ ps.Nodup
theorem KeysP.put {kvs : List (List L2.Key × V)} {ps : List Pr} (h : KeysP kvs ps) (x : Pr) (v : V) :
    ∃ qs, KeysP (putK kvs (keyP x) v) qs ∧ qs.length ≤ ps.length + 1 ∧ ∀ y, y ∈ qs ↔ y ∈ ps ∨ y = x := by
  have mem : (kvs.any fun kv => decide (kv.1 = keyP x)) = true ↔ x ∈ ps := by
    rw [List.any_eq_true]
    constructor
    · rintro ⟨kv, m, e⟩
      have m2 : kv.1 ∈ ps.map keyP := by
        rw [← h.1]
        exact List.mem_map.mpr ⟨kv, m, rfl⟩
      obtain ⟨y, my, ey⟩ := List.mem_map.mp m2
      rw [← keyP_inj (ey.trans (of_decide_eq_true e))]
      exact my
    · intro m
      have m2 : keyP x ∈ kvs.map (·.1) := by
        rw [h.1]
        exact List.mem_map.mpr ⟨x, m, rfl⟩
      obtain ⟨kv, mk, e⟩ := List.mem_map.mp m2
      exact ⟨kv, mk, decide_eq_true e⟩
  by_cases c : x ∈ ps
  · refine ⟨ps, ⟨?_, h.2⟩, by omega, fun y => ⟨.inl, fun z => z.elim id fun e => e ▸ c⟩⟩
    unfold putK
    rw [if_pos (mem.mpr c), List.map_map, ← h.1]
    refine List.map_congr_left fun kv _ => ?_
    show (if kv.1 = keyP x then (kv.1, v) else kv).1 = kv.1
    by_cases e : kv.1 = keyP x
    · rw [if_pos e]
    · rw [if_neg e]
  · refine ⟨ps ++ [x], ⟨?_, ?_⟩, by rw [List.length_append]; exact Nat.le_refl _, fun y => by rw [List.mem_append, List.mem_singleton]⟩
    · unfold putK
      rw [if_neg (fun z => c (mem.mp z)), List.map_append, List.map_append, h.1]
      rfl
    · refine List.pairwise_append.mpr ⟨h.2, List.pairwise_cons.mpr ⟨fun _ m => (by cases m), List.Pairwise.nil⟩, fun a ma b mb e => ?_⟩
      rw [List.mem_singleton.mp mb] at e
      exact c (e ▸ ma)
theorem KeysP.len {kvs : List (List L2.Key × V)} {ps : List Pr} (h : KeysP kvs ps) : kvs.length = ps.length := by
  have z := congrArg List.length h.1
  rw [List.length_map, List.length_map] at z
  exact z
theorem KeysP.at {kvs : List (List L2.Key × V)} {ps : List Pr} (h : KeysP kvs ps) {i : Nat} {k : List L2.Key} {v : V} (e : kvs[i]? = some (k, v)) : ∃ x, ps[i]? = some x ∧ k.map kV = [.int x.1, .int x.2] := by
  have z := congrArg (fun l => l[i]?) h.1
  simp only [List.getElem?_map] at z
  rw [e] at z
  cases q : ps[i]? with
  | none => rw [q] at z; cases z
  | some x =>
    rw [q] at z
    refine ⟨x, rfl, ?_⟩
    have : k = keyP x := Option.some.inj z
    rw [this]
    rfl
/-- the keys of such a dict, listed -/
theorem lc_keysP {d : Addr} {od : Obj} {kvs : List (List L2.Key × V)} {ps : List Pr} {vs : List Nat} {σ : L2.St} {H1 : Hp} {D : Addr} {Qd : Hp → Prop} {g : TG} {tt : TT} {te : TE} (hK : KeysP kvs ps) (hD : H1 d = some (.frz od (.dT kvs))) (nD : H1 D = none) (few : ps.length < sizeLine)
    (hs : ∀ (t : Addr) (x : Pr) (H' : Hp) (Po : V → Hp → Prop) (Pn : Hp → Prop), H' t = some (.tup [.int x.1, .int x.2]) → Po (.ref t) H' →
      g (.ref t) (wipe σ vs) H' fun σ2 H2 => wipe σ2 vs = wipe σ vs ∧ tt σ2 H2 fun b H3 => if b = true then te σ2 H3 Po else Pn H3)
    (hd : ∀ H', Same H1 H' → Cells H' D ps → Qd H') :
    ∃ W : Nat → Nat → Hp → Prop, (∃ m, W 0 m (upd H1 D (.lst []))) ∧ ∀ i m H, W i m H →
      ((Itkt d od kvs).stop i H ∧ Qd H) ∨ ((Itkt d od kvs).go i H ∧ ∃ Nx : Hp → Prop, (∀ H', Nx H' → ∃ m', m' < m ∧ W (i + 1) m' H') ∧ ∀ x H', (Itkt d od kvs).yld i H x H' → g x (wipe σ vs) H' fun σ2 H2 => wipe σ2 vs = wipe σ vs ∧ tt σ2 H2 fun b H3 =>
        if b = true then te σ2 H3 fun y H4 => ∃ acc, H4 D = some (.lst acc) ∧ acc.length < sizeLine ∧ Nx (upd H4 D (.lst (acc ++ [y]))) else Nx H3) := by
  have len := hK.len
  refine lc_it walk_keysT (fun i H' => Same H1 H' ∧ ∃ us : List (Addr × Pr), H' D = some (.lst (us.map fun t => V.ref t.1)) ∧ (∀ t ∈ us, H' t.1 = some (.tup [.int t.2.1, .int t.2.2])) ∧ us.map (·.2) = ps.take i)
    ⟨newS nD, [], upd_same, fun _ m => (by cases m), rfl⟩ (fun i H' _ p => p.1 _ _ hD) ?_ ?_
  · rintro i x H' H2 hi ⟨sm, us, h1, h2, h3⟩ ⟨rfl, k, v, q, e, rfl, hq⟩
    obtain ⟨y, hy, ek⟩ := hK.at e
    rw [ek] at hq
    have ul : us.length = i := by
      have z := congrArg List.length h3
      rw [List.length_map, List.length_take] at z
      omega
    refine hs q y _ _ _ hq ⟨_, h1, ?_, mutS sm nD, us ++ [(q, y)], ?_, ?_, ?_⟩
    · rw [List.length_map]
      omega
    · rw [upd_same, List.map_append]
      rfl
    · intro u m
      have off : ∀ z : Addr × Pr, H2 z.1 = some (.tup [.int z.2.1, .int z.2.2]) → upd H2 D (.lst ((us.map fun t => V.ref t.1) ++ [V.ref q])) z.1 = some (.tup [.int z.2.1, .int z.2.2]) := fun z g => by
        rw [upd_ne (fun e => ?_)]
        · exact g
        · rw [e, h1] at g
          cases g
      rcases List.mem_append.mp m with m | m
      · exact off u (h2 u m)
      · rw [List.mem_singleton.mp m]
        exact off (q, y) hq
    · rw [List.map_append, h3, take_next hy]
      rfl
  · rintro H' ⟨sm, us, h1, h2, h3⟩
    refine hd H' sm ⟨us, h1, h2, ?_⟩
    rw [h3, List.take_of_length_le (by omega)]
/-- such a list outlives a change of an object that is no tuple and not the list -/
theorem Cells.mut {H : Hp} {l d : Addr} {ps : List Pr} {o : HO} (h : Cells H l ps) (ne : l ≠ d) (nt : ∀ xs, H d ≠ some (.tup xs)) : Cells (upd H d o) l ps := by
  obtain ⟨ts, h1, h2, h3⟩ := h
  refine ⟨ts, by rw [upd_ne ne]; exact h1, fun t m => ?_, h3⟩
  rw [upd_ne (fun e => nt _ (e ▸ h2 t m))]
  exact h2 t m
theorem cells_mk {H : Hp} {l : Addr} (us : List (Addr × Pr)) (h : H l = some (.lst (us.map fun t => V.ref t.1))) (ht : ∀ u ∈ us, H u.1 = some (.tup [.int u.2.1, .int u.2.2])) : Cells H l (us.map (·.2)) := ⟨us, h, ht, rfl⟩
def cutT {α : Type} (ts : List α) (lo hi : Option Int) : List α := (ts.drop (HT.sIx ts.length 0 lo)).take (HT.sIx ts.length ts.length hi - HT.sIx ts.length 0 lo)
theorem cutV_map {α : Type} (f : α → V) (ts : List α) (lo hi : Option Int) : cutV (ts.map f) lo hi = (cutT ts lo hi).map f := by
  unfold cutV cutT
  rw [List.length_map, List.map_take, List.map_drop]
theorem cutT_mem {α : Type} {ts : List α} {lo hi : Option Int} {x : α} (h : x ∈ cutT ts lo hi) : x ∈ ts := List.mem_of_mem_drop (List.mem_of_mem_take h)
theorem cutT_len {α : Type} (ts : List α) (lo hi : Option Int) : (cutT ts lo hi).length ≤ ts.length := by
  unfold cutT
  rw [List.length_take, List.length_drop]
  omega
theorem eq_cells {l m : List Pr} (h : l = m) : V.bl (PyData.eqv (.list (l.map pd)) (.list (m.map pd))) = V.bl true := by
  rw [eqv_cells, decide_eq_true h]
theorem ne_cells {l m : List Pr} (h : l = m) : V.bl (!PyData.eqv (.list (l.map pd)) (.list (m.map pd))) = V.bl false := by
  rw [eqv_cells, decide_eq_true h] <;> rfl
theorem pw_map {f : Pr → Pr} (hf : ∀ x y, ltP x y → ltP (f x) (f y)) {l : List Pr} (h : l.Pairwise ltP) : (l.map f).Pairwise ltP := List.pairwise_map.mpr (h.imp fun {x y} q => hf x y q)
theorem nodup_map {f : Pr → Pr} (hf : ∀ x y, f x = f y → x = y) {l : List Pr} (h : l.Nodup) : (l.map f).Nodup := List.pairwise_map.mpr (h.imp fun {x y} q e => q (hf x y e))
theorem mem_map2 {f : Pr → Pr} {l m : List Pr} (h : ∀ x, x ∈ l ↔ x ∈ m) (k : Pr) : k ∈ l.map f ↔ k ∈ m.map f := by
  rw [List.mem_map, List.mem_map]
  exact ⟨fun ⟨x, m1, e⟩ => ⟨x, (h x).mp m1, e⟩, fun ⟨x, m1, e⟩ => ⟨x, (h x).mpr m1, e⟩⟩
theorem wipe2 (σ : L2.St) (i j : Nat) (a b : Option V) : wipe (((wipe σ [i, j]).set i a).set j b) [i, j] = wipe σ [i, j] := by
  refine List.ext_getElem? fun k => ?_
  show ((((((σ.set j none).set i none).set i a).set j b).set j none).set i none)[k]? = ((σ.set j none).set i none)[k]?
  simp only [List.getElem?_set, List.length_set]
  by_cases e1 : i = k <;> by_cases e2 : j = k <;> by_cases e3 : k < σ.length <;> simp [e1, e2, e3]
end Vx
namespace Vx
open PySem PySem.Spec PyProof.Rows L2
section
variable {X : Cx}
/-- xs[j], read for xs[j] op= v -/
theorem pget_list : PGet X (fun o i H Q => ∃ p xs j v, o = .ref p ∧ i = .int ((j : Nat) : Int) ∧ SqL X.K H p xs ∧ xs[j]? = some v ∧ Q v H) := by
  intro pins s σ H o i ov iv Q I ro ri h
  obtain ⟨p, xs, j, v, rfl, rfl, hs, hv, q⟩ := h
  cases ro
  obtain ⟨t, rfl⟩ := ri
  obtain ⟨its, r, pl, hz⟩ := I.list hs
  obtain ⟨w, ew, rw'⟩ := r.get hv
  exact getItem_listL pl.isList (by omega) (by have := line63; have := (List.getElem?_eq_some_iff.mp hv).1; omega) (by simpa using ew) ⟨v, H, I, rw', q⟩
theorem ip_addS : PIp X .Add (fun x y H Q => ∃ i j, x = .str i ∧ y = .str j ∧ i.length + j.length ≤ sizeLine ∧ Q (.str (i ++ j)) H) := fun pins s σ H x y v u Q I r1 r2 h => iop_add_str pins s σ H x y v u Q I r1 r2 h
end
theorem lc_pairs {lo : Int} {n : Nat} {g : TG} {tt : TT} {te : TE} {vs : List Nat} {σ : L2.St} {H1 : Hp} {D : Addr} {Qd : Hp → Prop} (f : Nat → Pr) (nD : H1 D = none) (few : n < sizeLine)
    (hs : ∀ (i : Nat) (H' : Hp) (Po : V → Hp → Prop) (Pn : Hp → Prop), i < n → Same H1 H' → (∀ t2, H' t2 = none → Po (.ref t2) (upd H' t2 (.tup [.int (f i).1, .int (f i).2]))) →
      g (.int (lo + i)) (wipe σ vs) H' fun σ2 H2 => wipe σ2 vs = wipe σ vs ∧ tt σ2 H2 fun b H3 => if b = true then te σ2 H3 Po else Pn H3)
    (hd : ∀ (H' : Hp) (us : List (Addr × Pr)), Same H1 H' → H' D = some (.lst (us.map fun t => V.ref t.1)) → (∀ t ∈ us, H' t.1 = some (.tup [.int t.2.1, .int t.2.2])) → us.map (·.2) = (List.range n).map f → Qd H') :
    ∃ W : Nat → Nat → Hp → Prop, (∃ m, W 0 m (upd H1 D (.lst []))) ∧ ∀ i m H, W i m H →
      ((Itr lo n).stop i H ∧ Qd H) ∨ ((Itr lo n).go i H ∧ ∃ Nx : Hp → Prop, (∀ H', Nx H' → ∃ m', m' < m ∧ W (i + 1) m' H') ∧ ∀ x H', (Itr lo n).yld i H x H' → g x (wipe σ vs) H' fun σ2 H2 => wipe σ2 vs = wipe σ vs ∧ tt σ2 H2 fun b H3 =>
        if b = true then te σ2 H3 fun y H4 => ∃ acc, H4 D = some (.lst acc) ∧ acc.length < sizeLine ∧ Nx (upd H4 D (.lst (acc ++ [y]))) else Nx H3) := by
  refine lc_range (lo := lo) (n := n) (fun i H' => Same H1 H' ∧ ∃ us : List (Addr × Pr), H' D = some (.lst (us.map fun t => V.ref t.1)) ∧ (∀ t ∈ us, H' t.1 = some (.tup [.int t.2.1, .int t.2.2])) ∧ us.map (·.2) = (List.range i).map f)
    ⟨newS nD, [], upd_same, fun _ m => (by cases m), rfl⟩ ?_ ?_
  · rintro i H' hi ⟨sm, us, h1, h2, h3⟩
    have ul : us.length = i := by
      have z := congrArg List.length h3
      rw [List.length_map, List.length_map, List.length_range] at z
      exact z
    refine hs i H' _ _ hi sm fun t2 n2 => ⟨us.map fun t => V.ref t.1, newS n2 _ _ h1, ?_, mutS (sm.trans (newS n2)) nD, us ++ [(t2, f i)], ?_, ?_, ?_⟩
    · rw [List.length_map, ul]
      omega
    · rw [upd_same, List.map_append]
      rfl
    · have nD2 : t2 ≠ D := fun e => by
        rw [e, h1] at n2
        cases n2
      intro u m
      rcases List.mem_append.mp m with m | m
      · have z := h2 u m
        rw [upd_ne (fun e => ?_)]
        · exact newS n2 _ _ z
        · rw [e, h1] at z
          cases z
      · rw [List.mem_singleton.mp m, upd_ne nD2, upd_same]
    · rw [List.map_append, h3, List.range_succ, List.map_append]
      rfl
  · rintro H' ⟨sm, us, h1, h2, h3⟩
    exact hd H' us sm h1 h2 h3
/-- a pair in a list of pairs -/
theorem any_pd (p : Pr) : ∀ ps : List Pr, (ps.map pd).any (fun z => PyData.eqv z (pd p)) = decide (p ∈ ps)
  | [] => by simp
  | q :: ps => by
    rw [List.map_cons, List.any_cons, any_pd p ps, eqv_pd]
    by_cases e : q = p
    · subst e
      simp
    · have e2 : ¬ p = q := fun z => e z.symm
      simp [e, e2]
theorem shaped_pd (p : Pr) : SeqAt.shaped (pd p) = true := by
  unfold SeqAt.shaped pd
  simp [PyData.canLay0, PyData.canLayAll0, PyData.depth, PyData.depthAll]
theorem op_inP {X : Cx} (hu : X.A.units + 65 < cLine) : OpR X (compareOp .In) (fun x y H Q => ∃ (t a : Addr) (p : Pr) (ps : List Pr), x = .ref t ∧ y = .ref a ∧ H t = some (.tup [.int p.1, .int p.2]) ∧ Cells H a ps ∧ Q (.bl (decide (p ∈ ps))) H) := by
  intro pins s σ H x y v u Q I rx ry h
  obtain ⟨t, a, p, ps, rfl, rfl, ht, hc, q⟩ := h
  refine op_inD hu pins s σ H _ _ v u Q I rx ry ⟨pd p, ps.map pd, .tup (tup_of ht) (.cons (.int _) (.cons (.int _) .nil)), dp_cells hc, shaped_pd p, shaped_cells ps, ?_⟩
  rw [any_pd]
  exact q
/-- sorted, of a list of pairs that may hold one several times -/
theorem cr_sortedN {X : Cx} : CallR X (.builtin "sorted") (fun xs H Q => ∃ l ps, xs = [V.ref l] ∧ Cells H l ps ∧
    ∀ p H' qs, Same H H' → H p = none → Cells H' p qs → qs.Perm ps → qs.Pairwise (fun x y => ¬ ltP y x) → Q (.ref p) H') := by
  intro pins s σ H xs us Q I r h
  obtain ⟨l, ps, rfl, ⟨ts, hl, ht, rfl⟩, q⟩ := h
  refine cr_sortedPO pins s σ H [V.ref l] us Q I r ⟨l, ts.map fun t => V.ref t.1, kH H, rfl, lst_of hl, fun x m => ?_, fun ys p srt stb n => ?_⟩
  · obtain ⟨t, m1, rfl⟩ := List.mem_map.mp m
    have g := ht t m1
    refine ⟨t.1, rfl, ?_⟩
    rw [kH_at g]
    exact g
  · have own : ∀ y ∈ ys, ∃ t ∈ ts, y = V.ref t.1 := fun y m => by
      obtain ⟨t, m1, e⟩ := List.mem_map.mp (stb.perm.mem_iff.mp m)
      exact ⟨t, m1, e.symm⟩
    have key : ∀ t ∈ ts, kH H (.ref t.1) = t.2 := fun t m => kH_at (ht t m)
    have pm : (ys.map (kH H)).Perm (ts.map (·.2)) := by
      have z := stb.perm.map (kH H)
      rw [List.map_map] at z
      rw [show ts.map (·.2) = ts.map (kH H ∘ fun t => V.ref t.1) from List.map_congr_left fun t m => (key t m).symm]
      exact z
    have sm : Same H (upd H p (.lst ys)) := newS n
    have eo : (ys.map fun v => (adV v, kH H v)).map (fun t => V.ref t.1) = ys := by
      rw [List.map_map]
      refine (List.map_congr_left fun v m => ?_).trans (List.map_id _)
      obtain ⟨t, _, rfl⟩ := own v m
      rfl
    refine q p _ (ys.map (kH H)) sm n ⟨ys.map fun v => (adV v, kH H v), ?_, fun u m => ?_, ?_⟩ pm ?_
    · rw [eo, upd_same]
    · obtain ⟨v, m1, rfl⟩ := List.mem_map.mp m
      obtain ⟨t, m2, rfl⟩ := own v m1
      refine sm _ _ ?_
      show H t.1 = _
      rw [key t m2]
      exact ht t m2
    · rw [List.map_map]
      rfl
    · refine List.pairwise_map.mpr (srt.imp fun {u v} h z => ?_)
      have h : SrtO.lexB (kH H v) (kH H u) = false := h
      have z : SrtO.lexB (kH H v) (kH H u) = true := z
      rw [h] at z
      cases z
end Vx
namespace Vx
open PySem PySem.Spec PyProof.Rows L2
/-! ### the items of a dict whose keys are tuples -/
section
variable {X : Cx} {pins : List (Addr × Obj)} {σ : L2.St} {H : Hp} {s : Shared} {d : Addr} {o : Obj}
theorem frzT2 {kvs : List (List L2.Key × V)} (I : Inv X pins σ H s) (h : H d = some (.frz o (.dT kvs))) :
    (d == sysModules) = false ∧ s.heap.get? d = some o ∧ o.ExactDict ∧ ∃ (es : Array DictEntry) (ep : Nat), o.data = .dict es ep ∧ es.size = kvs.length ∧
      ∀ (i : Nat) (k : List L2.Key) (v : V), kvs[i]? = some (k, v) → ∃ (en : DictEntry) (q : Addr), es[i]? = some en ∧ en.key = .ref q ∧ H q = some (.tup (k.map kV)) ∧ RelV v en.val := by
  obtain ⟨hd, z, hs, xs, pr, o', es, ep, ho, hx, hdt, he, _⟩ := I.hok d _ h
  have eo : o = o' := Option.some.inj (hd.symm.trans ho)
  subst eo
  refine ⟨hs, hd, hx, es, ep, hdt, (size_of_entries he).trans (Paired.length pr).symm, fun i k v e => ?_⟩
  obtain ⟨b, hb, _, e2, e3⟩ := paired_get pr e
  refine ⟨entryOfKey (tupleKind (mixKind X.prog X.w)) b, b.2.1, ?_, rfl, e2, e3⟩
  rw [entry_at he i, hb]
  rfl
end
/-- its items, each a new pair of the key's tuple and the value -/
def ItiT (d : Addr) (o : Obj) (kvs : List (List L2.Key × V)) : It where
  go i H := H d = some (.frz o (.dT kvs)) ∧ i < kvs.length
  yld i H x H' := ∃ (T : Addr) (k : List L2.Key) (v : V) (q : Addr), kvs[i]? = some (k, v) ∧ x = .ref T ∧ H q = some (.tup (k.map kV)) ∧ H T = none ∧ H' = upd H T (.tup [.ref q, v])
  stop i H := H d = some (.frz o (.dT kvs)) ∧ kvs.length ≤ i
section
variable {P : Program} {w : World} {K : PySem.W.Frag} {d : Addr} {o : Obj} {es : Array DictEntry} {ep : Nat}
theorem turn_itemsT {kvs : List (List L2.Key × V)} {elts : List Expr} {kk : Nat} {tpos : Pos} (it : Addr) (hod : o.data = .dict es ep) :
    Turn P w K (.Tuple elts kk tpos) (ItiT d o kvs) [it] it (fun i h => ∃ ok ov, IsItemIter h it d i kvs.length ep ok ov) where
  mem := List.mem_singleton.mpr rfl
  obj := fun i h st b hb => by
    obtain ⟨ok, ov, e⟩ := st
    rw [List.mem_singleton.mp hb]
    exact ⟨_, e, fun v z => nomatch z⟩
  keep := fun i h h' st k => by
    obtain ⟨ok, ov, e⟩ := st
    exact ⟨ok, ov, k it (List.mem_singleton.mpr rfl) _ e⟩
  item := by
    intro X hP hw hK hc i pins s σ H E I hf st hg
    subst hP hw hK
    obtain ⟨hd, hi⟩ := hg
    obtain ⟨hs, hgd, hx, es', ep', hdt, hsz, ent⟩ := frzT2 I hd
    obtain ⟨rfl, rfl⟩ := dict_ep hod hdt
    obtain ⟨⟨k, v⟩, hkv⟩ : ∃ p, kvs[i]? = some p := ⟨kvs[i], List.getElem?_eq_getElem hi⟩
    obtain ⟨en, q, hen, hkey, hq, rv⟩ := ent i k v hkv
    obtain ⟨ok, ov, he⟩ := st
    have hlt : it < s.heap.objs.size := Heap.lt_size he
    have hi' : i < es'.size := by
      rw [hsz]
      exact hi
    have een : es'[i] = en := by
      rw [Array.getElem?_eq_getElem hi'] at hen
      exact Option.some.inj hen
    rw [← hsz] at he
    refine DT.nextI he ⟨o, hgd, hx, hdt⟩ hi' fun h' ho hT hz hk => ?_
    rw [een, hkey] at ho hT
    refine ⟨_, rfl, wpAny_letOwnedTupleGo_items (s := { s with heap := h' }) ho fun h'' he' sb => ?_⟩
    have hT2 : h''.get? s.heap.objs.size = some { cls := .type "tuple", data := .seq #[.ref q, en.val] } := (sb.2 _ (Nat.ne_of_gt hlt)).trans hT
    have new : ObjOk X.prog X.w (upd H s.heap.objs.size (.tup [.ref q, v])) h'' s.heap.objs.size (.tup [.ref q, v]) :=
      ⟨by show 2 ≤ sizeLine; decide, [.ref q, en.val], .cons rfl (.cons rv .nil), ⟨_, hT2, rfl, _, rfl⟩⟩
    have I1 : Inv X pins σ (upd H s.heap.objs.size (.tup [.ref q, v])) { s with heap := h'' } :=
      I.turnedNew (t' := s.toks) (ch := [it]) (fun b ob hb e => (sb.2 b (by simpa using hb)).trans (hk b ob (by simpa using hb) e)) hf (Nat.le_refl _) new
    refine ⟨.ref s.heap.objs.size, _, I1, rfl, ⟨_, k, v, q, hkv, rfl, hq, I.hok.fresh (Nat.le_refl _), rfl⟩, ⟨.ref q, en.val, ?_⟩, fun b hb => ?_⟩
    · rw [← hsz]
      exact he'
    · rw [List.mem_singleton.mp hb, upd_ne (Nat.ne_of_lt hlt)]
      exact (hf it (List.mem_singleton.mpr rfl)).1
  done := by
    intro X hP hw hK hc i pins s σ H E I hf st hg
    subst hP hw hK
    obtain ⟨hd, hi⟩ := hg
    obtain ⟨f0, f1, f2, f3, f4, f5⟩ := hf it (List.mem_singleton.mpr rfl)
    obtain ⟨hs, hgd, hx, es', ep', hdt, hsz, ent⟩ := frzT2 I hd
    obtain ⟨rfl, rfl⟩ := dict_ep hod hdt
    obtain ⟨ok, ov, he⟩ := st
    rw [← hsz] at he
    exact DT.endI (I.ok.hd hc) he ⟨o, hgd, hx, hdt⟩ (by omega) fun h' eb => ⟨rfl, I.turned (t' := s.toks) (fun b ob hb e => eb b ob hb e) f0 f1 f3 f4 f5⟩
  self := fun A i s Q E st h => by
    obtain ⟨_, _, e⟩ := st
    exact PySem.W.kcp_self e h
end
def iItemsT (td : TE) : TI := fun σ H R => td σ H fun x H1 => ∃ d o kvs, x = .ref d ∧ H1 d = some (.frz o (.dT kvs)) ∧ R (ItiT d o kvs) H1
theorem pi_itemsT {X : Cx} {e : Expr} {td : TE} {apos cpos tpos : Pos} {elts : List Expr} {kk : Nat} (he : PE X e td) (hbase : attributeBase e "items" X.env (eval e X.env) = eval e X.env := by rfl) (hline : (apos.endLine == cpos.line) = true := by rfl) :
    PI X (.Tuple elts kk tpos) (.Call (.Attribute e "items" apos) [] [] cpos) (iItemsT td) := by
  refine ⟨fun pins s σ H R I h => ?_⟩
  refine wpAny_Call_method (T := "dict") (id := "dict.items") hbase rfl hline F.plainAttrs_dict F.slot_dict_items F.type_dict_items (thn (he.run pins s σ H _ I h) fun u s1 ⟨x, H1, I1, rx, d, o, kvs, ex, hd, q⟩ => ?_)
  subst ex
  obtain rfl : u = Value.ref d := rx
  obtain ⟨hs, hgd, hx, es, ep, hdt, hsz, ent⟩ := frzT2 I1 hd
  have raw : DT.Raw s1.heap d es ep := ⟨o, hgd, hx, hdt⟩
  refine ⟨raw.typeIs, (fun a ea => by cases ea; exact ⟨o, hgd, hx.2.1⟩), ?_⟩
  have I2 : Inv X pins σ H1 { s1 with heap := s1.heap.push { cls := .type "dict_items", data := .fields #[.ref d] } } := I1.kept (t' := s1.toks) fun b ob q => Heap.get?_push_of_some _ q
  have fin : wpAny (model X.prog X.w) X.A (pyIter (.ref s1.heap.objs.size)) (PIE X pins σ (.Tuple elts kk tpos) R) X.xe { s1 with heap := s1.heap.push { cls := .type "dict_items", data := .fields #[.ref d] } } := by
    refine DT.iterI (d := d) (es := es) (ep := ep) ⟨_, Heap.get?_push_size _ rfl, rfl, rfl⟩ (raw.push _) (pi_one (tk := s1.toks) I2 _ (turn_itemsT _ hdt) ⟨.none, .none, ?_⟩ q)
    rw [hsz]
    exact Heap.get?_push_size _ rfl
  show wpAny _ _ (callWith cpos (.builtin "dict.items") [.ref d] [] []) _ X.xe s1
  exact method_meetsIn F.slot_dict_items F.entry_dict_items rfl (PySem.evalArgs_none ⟨rfl, raw.typeIs, F.args_dict_items_1 _, _, DT.meetsItems (es := es) (ep := ep) hs, ⟨raw, fin⟩⟩)
theorem walk_itemsT {d : Addr} {o : Obj} {kvs : List (List L2.Key × V)} : Walk (ItiT d o kvs) kvs.length (fun H => H d = some (.frz o (.dT kvs)))
    (fun i H x H' => ∃ (T : Addr) (k : List L2.Key) (v : V) (q : Addr), kvs[i]? = some (k, v) ∧ x = .ref T ∧ H q = some (.tup (k.map kV)) ∧ H T = none ∧ H' = upd H T (.tup [.ref q, v])) :=
  ⟨fun _ _ hi q => ⟨q, hi⟩, fun _ q => ⟨q, Nat.le_refl _⟩, fun _ _ _ _ _ _ y => y⟩
end Vx
namespace Vx
open PySem PySem.Spec PyProof.Rows L2
/-! ### bits of numbers from 0 on -/
theorem xor_and_add : ∀ a b : Nat, (a ^^^ b) + 2 * (a &&& b) = a + b := by
  intro a
  induction a using Nat.strongRecOn with
  | _ a ih =>
    intro b
    by_cases h : a = 0
    · subst h
      simp
    · have e := ih (a / 2) (by omega) (b / 2)
      have x1 : (a ^^^ b) / 2 = (a / 2) ^^^ (b / 2) := Nat.xor_div_two
      have x2 : (a &&& b) / 2 = (a / 2) &&& (b / 2) := Nat.and_div_two
      have t1 := Nat.testBit_xor a b 0
      have t2 := Nat.testBit_and a b 0
      rw [Nat.testBit_zero, Nat.testBit_zero, Nat.testBit_zero] at t1 t2
      have y1 : (a ^^^ b) % 2 = (a % 2 + b % 2) % 2 := by
        by_cases p : a % 2 = 1 <;> by_cases q : b % 2 = 1
        · rw [decide_eq_true p, decide_eq_true q] at t1
          have := of_decide_eq_false t1
          omega
        · rw [decide_eq_true p, decide_eq_false q] at t1
          have := of_decide_eq_true t1
          omega
        · rw [decide_eq_false p, decide_eq_true q] at t1
          have := of_decide_eq_true t1
          omega
        · rw [decide_eq_false p, decide_eq_false q] at t1
          have := of_decide_eq_false t1
          omega
      have y2 : (a &&& b) % 2 = if a % 2 = 1 ∧ b % 2 = 1 then 1 else 0 := by
        by_cases p : a % 2 = 1 <;> by_cases q : b % 2 = 1
        · rw [decide_eq_true p, decide_eq_true q] at t2
          rw [if_pos ⟨p, q⟩]
          exact of_decide_eq_true t2
        · rw [decide_eq_true p, decide_eq_false q] at t2
          rw [if_neg fun z => q z.2]
          have := of_decide_eq_false t2
          omega
        · rw [decide_eq_false p, decide_eq_true q] at t2
          rw [if_neg fun z => p z.1]
          have := of_decide_eq_false t2
          omega
        · rw [decide_eq_false p, decide_eq_false q] at t2
          rw [if_neg fun z => p z.1]
          have := of_decide_eq_false t2
          omega
      have z1 := Nat.div_add_mod (a ^^^ b) 2
      have z2 := Nat.div_add_mod (a &&& b) 2
      rw [x1, y1] at z1
      rw [x2, y2] at z2
      by_cases p : a % 2 = 1 ∧ b % 2 = 1
      · rw [if_pos p] at z2
        omega
      · rw [if_neg p] at z2
        omega
theorem or_and_xor (a b : Nat) : (a ||| b) = (a ^^^ b) + (a &&& b) := by
  have d : (a ^^^ b) &&& (a &&& b) = 0 := by
    refine Nat.eq_of_testBit_eq fun i => ?_
    simp only [Nat.testBit_and, Nat.testBit_xor, Nat.zero_testBit]
    cases a.testBit i <;> cases b.testBit i <;> rfl
  have e := xor_and_add (a ^^^ b) (a &&& b)
  rw [d] at e
  have f : (a ^^^ b) ^^^ (a &&& b) = a ||| b := by
    refine Nat.eq_of_testBit_eq fun i => ?_
    simp only [Nat.testBit_and, Nat.testBit_xor, Nat.testBit_or]
    cases a.testBit i <;> cases b.testBit i <;> rfl
  omega
theorem bAnd (a b : Nat) : Builtin.bitAnd (a : Int) (b : Int) = ((a &&& b : Nat) : Int) := PySem.W.os_band a b
theorem bOr (a b : Nat) : Builtin.bitOr (a : Int) (b : Int) = ((a ||| b : Nat) : Int) := by
  rw [bitOr_nn (Int.natCast_nonneg a) (Int.natCast_nonneg b), Int.toNat_natCast, Int.toNat_natCast]
theorem bXor (a b : Nat) : Builtin.bitXor (a : Int) (b : Int) = ((a ^^^ b : Nat) : Int) := by
  show Builtin.bitOr (a : Int) (b : Int) - Builtin.bitAnd (a : Int) (b : Int) = _
  rw [bAnd, bOr, or_and_xor]
  omega
section
variable {X : Cx}
theorem op_andNN : OpR X (binaryOp .BitAnd) (fun x y H Q => ∃ a b : Nat, x = .int (a : Int) ∧ y = .int (b : Int) ∧ Q (.int ((a &&& b : Nat) : Int)) H) := by
  intro pins s σ H x y v u Q I r1 r2 h
  obtain ⟨a, b, rfl, rfl, q⟩ := h
  exact op_and pins s σ H _ _ v u Q I r1 r2 ⟨_, _, rfl, rfl, (by show Q (V.int (Builtin.bitAnd (a : Int) (b : Int))) H; rw [bAnd]; exact q)⟩
theorem op_orNN : OpR X (binaryOp .BitOr) (fun x y H Q => ∃ a b : Nat, x = .int (a : Int) ∧ y = .int (b : Int) ∧ Q (.int ((a ||| b : Nat) : Int)) H) := by
  intro pins s σ H x y v u Q I r1 r2 h
  obtain ⟨a, b, rfl, rfl, q⟩ := h
  exact op_or pins s σ H _ _ v u Q I r1 r2 ⟨_, _, rfl, rfl, (by show Q (V.int (Builtin.bitOr (a : Int) (b : Int))) H; rw [bOr]; exact q)⟩
theorem op_xorNN : OpR X (binaryOp .BitXor) (fun x y H Q => ∃ a b : Nat, x = .int (a : Int) ∧ y = .int (b : Int) ∧ Q (.int ((a ^^^ b : Nat) : Int)) H) := by
  intro pins s σ H x y v u Q I r1 r2 h
  obtain ⟨a, b, rfl, rfl, q⟩ := h
  exact op_xor pins s σ H _ _ v u Q I r1 r2 ⟨_, _, rfl, rfl, (by show Q (V.int (Builtin.bitXor (a : Int) (b : Int))) H; rw [bXor]; exact q)⟩
theorem ip_orNN : PIp X .BitOr (fun x y H Q => ∃ a b : Nat, x = .int (a : Int) ∧ y = .int (b : Int) ∧ Q (.int ((a ||| b : Nat) : Int)) H) := by
  intro pins s σ H x y v u Q I r1 r2 h
  obtain ⟨a, b, rfl, rfl, q⟩ := h
  exact iop_or pins s σ H _ _ v u Q I r1 r2 ⟨_, _, rfl, rfl, (by show Q (V.int (Builtin.bitOr (a : Int) (b : Int))) H; rw [bOr]; exact q)⟩
theorem ip_xorNN : PIp X .BitXor (fun x y H Q => ∃ a b : Nat, x = .int (a : Int) ∧ y = .int (b : Int) ∧ Q (.int ((a ^^^ b : Nat) : Int)) H) := by
  intro pins s σ H x y v u Q I r1 r2 h
  obtain ⟨a, b, rfl, rfl, q⟩ := h
  exact iop_xor pins s σ H _ _ v u Q I r1 r2 ⟨_, _, rfl, rfl, (by show Q (V.int (Builtin.bitXor (a : Int) (b : Int))) H; rw [bXor]; exact q)⟩
theorem op_shrNN : OpR X (binaryOp .RShift) (fun x y H Q => ∃ a k : Nat, x = .int (a : Int) ∧ y = .int (k : Int) ∧ Q (.int ((a >>> k : Nat) : Int)) H) := by
  intro pins s σ H x y v u Q I r1 r2 h
  obtain ⟨a, k, rfl, rfl, q⟩ := h
  refine op_shrN pins s σ H _ _ v u Q I r1 r2 ⟨_, k, rfl, rfl, ?_⟩
  rw [show (a : Int) / 2 ^ k = ((a >>> k : Nat) : Int) by rw [Nat.shiftRight_eq_div_pow]; exact (by push_cast; rfl)]
  exact q
theorem op_shlNN : OpR X (binaryOp .LShift) (fun x y H Q => ∃ (a k n : Nat), x = .int (a : Int) ∧ y = .int (k : Int) ∧ a < 2 ^ n ∧ n + k ≤ 134217728 ∧ Q (.int ((a <<< k : Nat) : Int)) H) := by
  intro pins s σ H x y v u Q I r1 r2 h
  obtain ⟨a, k, n, rfl, rfl, la, lk, q⟩ := h
  refine op_shlN pins s σ H _ _ v u Q I r1 r2 ⟨_, k, rfl, rfl, shl_ok (n := n) la lk, ?_⟩
  rw [show (a : Int) * 2 ^ k = ((a <<< k : Nat) : Int) by rw [Nat.shiftLeft_eq]; exact (by push_cast; rfl)]
  exact q
end
/-! ### the bits that are set, ascending -/
def bitsB (N n : Nat) : List Nat := (List.range N).filter fun j => n.testBit j
theorem mem_bitsB {N n j : Nat} : j ∈ bitsB N n ↔ j < N ∧ n.testBit j = true := by
  unfold bitsB
  rw [List.mem_filter, List.mem_range]
theorem low_bit : ∀ n : Nat, n ≠ 0 → ∃ k a, n = 2 ^ k * (2 * a + 1) := by
  intro n
  induction n using Nat.strongRecOn with
  | _ n ih =>
    intro h
    by_cases e : n % 2 = 1
    · exact ⟨0, n / 2, by omega⟩
    · obtain ⟨k, a, q⟩ := ih (n / 2) (by omega) (by omega)
      refine ⟨k + 1, a, ?_⟩
      have : n = 2 * (n / 2) := by omega
      rw [this, q, Nat.pow_succ, Nat.mul_comm (2 ^ k) 2, Nat.mul_assoc]
theorem low_test {k a j : Nat} : (2 ^ k * (2 * a + 1)).testBit j = (decide (j = k) || (decide (k < j) && (2 ^ k * (2 * a)).testBit j)) := by
  rw [Nat.testBit_two_pow_mul, Nat.testBit_two_pow_mul]
  by_cases h : k ≤ j
  · by_cases e : j = k
    · subst e
      simp [Nat.testBit_zero]
    · have e2 : k < j := by omega
      have e3 : j - k = (j - k - 1) + 1 := by omega
      rw [e3, Nat.testBit_succ, Nat.testBit_succ]
      have e4 : (2 * a + 1) / 2 = 2 * a / 2 := by omega
      rw [e4]
      simp [h, e, e2]
  · have e : j ≠ k := by omega
    have e2 : ¬ k < j := by omega
    simp [h, e, e2]
theorem low_xor (k a : Nat) : 2 ^ k * (2 * a + 1) ^^^ 2 ^ k = 2 ^ k * (2 * a) := by
  refine Nat.eq_of_testBit_eq fun j => ?_
  rw [Nat.testBit_xor, low_test, Nat.testBit_two_pow]
  by_cases e : k = j
  · subst e
    simp [Nat.testBit_two_pow_mul, Nat.testBit_zero]
  · have e' : j ≠ k := fun z => e z.symm
    simp only [e, e', decide_false, Bool.false_or, Bool.xor_false]
    by_cases h : k < j
    · simp [h]
    · have : ¬ k ≤ j := by omega
      simp [h, this, Nat.testBit_two_pow_mul]
theorem bits_low {N k a : Nat} (h : 2 ^ k * (2 * a + 1) < 2 ^ N) : bitsB N (2 ^ k * (2 * a + 1)) = k :: bitsB N (2 ^ k * (2 * a)) := by
  have hk : k < N := by
    have : 2 ^ k < 2 ^ N := Nat.lt_of_le_of_lt (Nat.le_mul_of_pos_right _ (by omega)) h
    exact (Nat.pow_lt_pow_iff_right (by decide)).mp this
  have e : List.range N = List.range k ++ k :: (List.range (N - k - 1)).map (fun j => k + 1 + j) := by
    have e1 := List.range_add (n := k) (m := N - k)
    rw [show k + (N - k) = N by omega] at e1
    rw [e1, show N - k = (N - k - 1) + 1 by omega, List.range_succ_eq_map, List.map_cons, List.map_map]
    simp
    intro j _
    omega
  have z : ∀ m, (List.range k).filter (fun j => (2 ^ k * m).testBit j) = [] := fun m => by
    refine List.filter_eq_nil_iff.mpr fun j hj => ?_
    have := List.mem_range.mp hj
    rw [Nat.testBit_two_pow_mul]
    have : ¬ k ≤ j := by omega
    simp [this]
  unfold bitsB
  rw [e, List.filter_append, List.filter_append, z, z, List.nil_append, List.nil_append, List.filter_cons, List.filter_cons]
  rw [if_pos (by rw [low_test]; simp), if_neg (by rw [Nat.testBit_two_pow_mul]; simp [Nat.testBit_zero])]
  refine congrArg _ (List.filter_congr fun j hj => ?_)
  obtain ⟨i, _, rfl⟩ := List.mem_map.mp hj
  rw [low_test]
  have e1 : ¬ k + 1 + i = k := by omega
  have e2 : k < k + 1 + i := by omega
  simp [e1, e2]
theorem bits_zero (N : Nat) : bitsB N 0 = [] := by
  unfold bitsB
  exact List.filter_eq_nil_iff.mpr fun j _ => by simp
theorem low_and (k a : Nat) : Builtin.bitAnd ((2 ^ k * (2 * a + 1) : Nat) : Int) (-((2 ^ k * (2 * a + 1) : Nat) : Int)) = ((2 ^ k : Nat) : Int) := by
  have e := PySem.W.kbt_low k (a : Int)
  push_cast
  exact e
theorem intBits_pow (k : Nat) : Builtin.Int.intBits ((2 ^ k : Nat) : Int) = k + 1 := by
  unfold Builtin.Int.intBits
  have h : ¬ ((((2 ^ k : Nat) : Int)) == 0) = true := by
    have : 0 < 2 ^ k := Nat.two_pow_pos k
    simp only [beq_iff_eq]
    omega
  rw [if_neg h, Int.natAbs_natCast, Nat.log2_two_pow]
end Vx
namespace Vx
open PySem PySem.Spec PyProof.Rows L2
/-! ### dicts whose keys are pairs, told by the list of the keys and a function -/
def MapP (kvs : List (List L2.Key × V)) (ps : List Pr) (g : Pr → V) : Prop := kvs = ps.map (fun x => (keyP x, g x)) ∧ ps.Nodup
def addK (ps : List Pr) (x : Pr) : List Pr := if x ∈ ps then ps else ps ++ [x]
def setG (g : Pr → V) (x : Pr) (v : V) : Pr → V := fun y => if y = x then v else g y
theorem mem_addK {ps : List Pr} {x y : Pr} : y ∈ addK ps x ↔ y ∈ ps ∨ y = x := by
  unfold addK
  by_cases h : x ∈ ps
  · rw [if_pos h]
    exact ⟨.inl, fun q => q.elim id fun e => e ▸ h⟩
  · rw [if_neg h, List.mem_append, List.mem_singleton]
theorem addK_len {ps : List Pr} {x : Pr} : (addK ps x).length ≤ ps.length + 1 := by
  unfold addK
  by_cases h : x ∈ ps
  · rw [if_pos h]
    omega
  · rw [if_neg h, List.length_append]
    exact Nat.le_refl _
theorem addK_new {ps : List Pr} {x : Pr} (h : x ∉ ps) : addK ps x = ps ++ [x] := if_neg h
theorem addK_old {ps : List Pr} {x : Pr} (h : x ∈ ps) : addK ps x = ps := if_pos h
theorem MapP.nil (g : Pr → V) : MapP [] [] g := ⟨rfl, List.nodup_nil⟩
theorem MapP.keys {kvs : List (List L2.Key × V)} {ps : List Pr} {g : Pr → V} (h : MapP kvs ps g) : KeysP kvs ps := by
  refine ⟨?_, h.2⟩
  rw [h.1, List.map_map]
  rfl
theorem MapP.len {kvs : List (List L2.Key × V)} {ps : List Pr} {g : Pr → V} (h : MapP kvs ps g) : kvs.length = ps.length := by rw [h.1, List.length_map]
theorem MapP.congr {kvs : List (List L2.Key × V)} {ps : List Pr} {g g' : Pr → V} (h : MapP kvs ps g) (e : ∀ x ∈ ps, g x = g' x) : MapP kvs ps g' := by
  refine ⟨?_, h.2⟩
  rw [h.1]
  exact List.map_congr_left fun x m => by rw [e x m]
theorem MapP.at {kvs : List (List L2.Key × V)} {ps : List Pr} {g : Pr → V} (h : MapP kvs ps g) {i : Nat} {k : List L2.Key} {v : V} (e : kvs[i]? = some (k, v)) : ∃ x, ps[i]? = some x ∧ k = keyP x ∧ v = g x := by
  rw [h.1, List.getElem?_map] at e
  cases q : ps[i]? with
  | none => rw [q] at e; cases e
  | some x =>
    rw [q] at e
    injection e with e
    injection e with e1 e2
    exact ⟨x, rfl, e1.symm, e2.symm⟩
theorem MapP.get {kvs : List (List L2.Key × V)} {ps : List Pr} {g : Pr → V} (h : MapP kvs ps g) (x : Pr) : valV kvs (keyP x) = if x ∈ ps then some (g x) else none := by
  rw [h.1]
  have go : ∀ qs : List Pr, valV (qs.map fun x => (keyP x, g x)) (keyP x) = if x ∈ qs then some (g x) else none := fun qs => by
    induction qs with
    | nil => rfl
    | cons y qs ih =>
      rw [List.map_cons]
      by_cases e : y = x
      · subst e
        rw [valV_pos rfl, if_pos List.mem_cons_self]
      · rw [valV_neg (fun z => e (keyP_inj z)), ih]
        have e' : ¬ x = y := fun z => e z.symm
        by_cases m : x ∈ qs <;> simp [m, e']
  exact go ps
theorem MapP.put {kvs : List (List L2.Key × V)} {ps : List Pr} {g : Pr → V} (h : MapP kvs ps g) (x : Pr) (v : V) : MapP (putK kvs (keyP x) v) (addK ps x) (setG g x v) := by
  have any : (kvs.any fun kv => decide (kv.1 = keyP x)) = decide (x ∈ ps) := by
    rw [valV_any, h.get]
    by_cases m : x ∈ ps <;> simp [m]
  unfold putK
  rw [any]
  by_cases m : x ∈ ps
  · rw [if_pos (decide_eq_true m), addK_old m]
    refine ⟨?_, h.2⟩
    rw [h.1, List.map_map]
    refine List.map_congr_left fun y _ => ?_
    show (if keyP y = keyP x then (keyP y, v) else (keyP y, g y)) = (keyP y, if y = x then v else g y)
    by_cases e : y = x
    · rw [if_pos (by rw [e]), if_pos e]
    · rw [if_neg fun z => e (keyP_inj z), if_neg e]
  · rw [if_neg (by simp [m]), addK_new m]
    refine ⟨?_, ?_⟩
    · rw [h.1, List.map_append]
      congr 1
      · refine List.map_congr_left fun y my => ?_
        have e : ¬ y = x := fun e => m (e ▸ my)
        show (keyP y, g y) = (keyP y, if y = x then v else g y)
        rw [if_neg e]
      · show [(keyP x, v)] = [(keyP x, if x = x then v else g x)]
        rw [if_pos rfl]
    · refine List.pairwise_append.mpr ⟨h.2, List.pairwise_cons.mpr ⟨fun _ m => (by cases m), List.Pairwise.nil⟩, fun a ma b mb e => ?_⟩
      rw [List.mem_singleton.mp mb] at e
      exact m (e ▸ ma)
theorem MapP.drop {kvs : List (List L2.Key × V)} {ps : List Pr} {g : Pr → V} (h : MapP kvs ps g) (x : Pr) : MapP (dropK kvs (keyP x)) (ps.filter fun y => decide (y ≠ x)) g := by
  refine ⟨?_, h.2.filter _⟩
  unfold dropK
  rw [h.1, List.filter_map]
  congr 1
  refine List.filter_congr fun y _ => ?_
  show decide (keyP y ≠ keyP x) = decide (y ≠ x)
  by_cases e : y = x
  · simp [e]
  · have : keyP y ≠ keyP x := fun z => e (keyP_inj z)
    simp [e, this]
/-- at d: such a dict -/
def Dct (H : Hp) (d : Addr) (ps : List Pr) (g : Pr → V) : Prop := ∃ kvs, H d = some (.dT kvs) ∧ MapP kvs ps g
theorem Dct.up {H H' : Hp} {d : Addr} {ps : List Pr} {g : Pr → V} (e : Same H H') (h : Dct H d ps g) : Dct H' d ps g := by
  obtain ⟨kvs, h1, h2⟩ := h
  exact ⟨kvs, e _ _ h1, h2⟩
theorem Dct.new {H : Hp} {d : Addr} (g : Pr → V) (h : H d = some (.dT [])) : Dct H d [] g := ⟨[], h, .nil g⟩
theorem Dct.ne {H : Hp} {d p : Addr} {ps : List Pr} {g : Pr → V} (h : Dct H d ps g) (n : H p = none) : p ≠ d := fun e => by
  obtain ⟨kvs, h1, _⟩ := h
  rw [e, h1] at n
  cases n
theorem Dct.isD {H : Hp} {d : Addr} {ps : List Pr} {g : Pr → V} (h : Dct H d ps g) : IsD H d := by
  obtain ⟨kvs, h1, _⟩ := h
  exact .inr ⟨kvs, .inl h1⟩
theorem Dct.dget {H : Hp} {d b : Addr} {ps : List Pr} {g : Pr → V} {x : Pr} (h : Dct H d ps g) (e : H b = some (.tup [.int x.1, .int x.2])) : DGet H d (.ref b) (if x ∈ ps then some (g x) else none) := by
  obtain ⟨kvs, h1, h2⟩ := h
  rw [← h2.get x]
  exact .t (k := keyP x) h1 e
/-- the answer of d.get(x, z) -/
def orG (ps : List Pr) (g : Pr → V) (z : V) (x : Pr) : V := if x ∈ ps then g x else z
theorem getD_or {ps : List Pr} {g : Pr → V} {z : V} {x : Pr} : (if x ∈ ps then some (g x) else none : Option V).getD z = orG ps g z x := by
  unfold orG
  by_cases h : x ∈ ps <;> simp [h]
/-- what stands elsewhere stays, d's dict grows -/
def PutAt (H : Hp) (d : Addr) (ps : List Pr) (g : Pr → V) (x : Pr) (v : V) (H' : Hp) : Prop := Dct H' d (addK ps x) (setG g x v) ∧ ∀ b, b ≠ d → H' b = H b
theorem Dct.dput {H : Hp} {d b : Addr} {ps : List Pr} {g : Pr → V} {x : Pr} (h : Dct H d ps g) (few : ps.length < sizeLine) (e : H b = some (.tup [.int x.1, .int x.2])) (v : V) : ∃ H', DPut H d (.ref b) v H' ∧ PutAt H d ps g x v H' := by
  obtain ⟨kvs, h1, h2⟩ := h
  exact ⟨_, .t (k := keyP x) h1 e (by rw [h2.len]; exact few), ⟨_, upd_same, h2.put x v⟩, fun b n => upd_ne n⟩
theorem PutAt.mut {H0 H H' : Hp} {d : Addr} {ps : List Pr} {g : Pr → V} {x : Pr} {v : V} (p : PutAt H d ps g x v H') (sm : Same H0 H) (n : H0 d = none) : Same H0 H' := fun b o e => by
  rw [p.2 b fun z => by rw [z, n] at e; cases e]
  exact sm b o e
theorem Dct.congr {H : Hp} {d : Addr} {ps : List Pr} {g g' : Pr → V} (h : Dct H d ps g) (e : ∀ x ∈ ps, g x = g' x) : Dct H d ps g' := by
  obtain ⟨kvs, h1, h2⟩ := h
  exact ⟨kvs, h1, h2.congr e⟩
theorem updS {H H' : Hp} {d : Addr} {o : HO} (e : Same H H') : Same (upd H d o) (upd H' d o) := fun b u h => by
  by_cases c : b = d
  · rw [c, upd_same] at h
    rw [c, upd_same]
    exact h
  · rw [upd_ne c] at h
    rw [upd_ne c]
    exact e b u h
theorem Dct.off {H : Hp} {d e : Addr} {ps : List Pr} {g : Pr → V} {o : HO} (h : Dct H d ps g) (n : d ≠ e) : Dct (upd H e o) d ps g := by
  obtain ⟨kvs, h1, h2⟩ := h
  exact ⟨kvs, by rw [upd_ne n]; exact h1, h2⟩
theorem nodup_next {α : Type} {ps : List α} {i : Nat} {x : α} (nd : ps.Nodup) (h : ps[i]? = some x) : x ∉ ps.take i := fun m => by
  obtain ⟨j, hj, e⟩ := List.getElem_of_mem m
  rw [List.length_take] at hj
  obtain ⟨li, ei⟩ := List.getElem?_eq_some_iff.mp h
  rw [List.getElem_take] at e
  have := (List.getElem_inj nd (h₀ := by omega) (h₁ := li)).mp (e.trans ei.symm)
  omega
theorem addK_take {ps : List Pr} {i : Nat} {x : Pr} (nd : ps.Nodup) (h : ps[i]? = some x) : addK (ps.take i) x = ps.take (i + 1) := by
  rw [addK_new (nodup_next nd h), take_next h]
theorem unlock {H H' : Hp} {d : Addr} {od : Obj} {u : HO} (hd : H d = some u) (sm : Same (upd H d (.frz od u)) H') : Same H (upd H' d u) := fun b o e => by
  by_cases c : b = d
  · rw [c] at e ⊢
    rw [hd] at e
    rw [upd_same]
    exact e
  · rw [upd_ne c]
    exact sm b o (by rw [upd_ne c]; exact e)
/-! ### the program's lists of such keys -/
theorem isKeys_cells {H : Hp} {p : Addr} : ∀ {kvs : List (List L2.Key × V)} {ps : List Pr} {g : Pr → V} {bs : List Addr}, MapP kvs ps g → IsKeys H kvs bs → H p = some (.lst (bs.map V.ref)) → Cells H p ps := by
  have go : ∀ (ps : List Pr) (g : Pr → V) (bs : List Addr), IsKeys H (ps.map fun x => (keyP x, g x)) bs → ∃ ts : List (Addr × Pr), bs.map V.ref = ts.map (fun t => V.ref t.1) ∧ (∀ t ∈ ts, H t.1 = some (.tup [.int t.2.1, .int t.2.2])) ∧ ts.map (·.2) = ps := by
    intro ps g
    induction ps with
    | nil =>
      intro bs h
      cases h
      exact ⟨[], rfl, fun _ m => (by cases m), rfl⟩
    | cons x ps ih =>
      intro bs h
      cases h with
      | @cons _ b _ bs h1 h2 =>
        obtain ⟨ts, a1, a2, a3⟩ := ih bs h2
        refine ⟨(b, x) :: ts, ?_, ?_, ?_⟩
        · rw [List.map_cons, List.map_cons, a1]
        · intro t m
          rcases List.mem_cons.mp m with e | m
          · rw [e]
            exact h1
          · exact a2 t m
        · rw [List.map_cons, a3]
  intro kvs ps g bs h k e
  rw [h.1] at k
  obtain ⟨ts, a1, a2, a3⟩ := go ps g bs k
  exact ⟨ts, by rw [e, a1], a2, a3⟩
theorem cr_listP {X : Cx} (hc : X.calm = true) : CallR X (.type "list") (fun xs H Q => ∃ d ps g, xs = [V.ref d] ∧ Dct H d ps g ∧ ∀ H' p, Same H H' → H p = none → Cells H' p ps → Q (.ref p) H') := by
  intro pins s σ H xs us Q I r h
  obtain ⟨d, ps, g, rfl, ⟨kvs, h1, h2⟩, q⟩ := h
  refine call_list_dT hc pins s σ H _ us Q I r ⟨d, kvs, rfl, .inl h1, fun p bs n k => q _ p (newS n) n ?_⟩
  refine isKeys_cells (bs := bs) h2 ?_ upd_same
  exact Paired.mapP k fun a b e => newS n _ _ e
theorem truC {K : PySem.W.Frag} {H : Hp} {l : Addr} {ps : List Pr} (h : Cells H l ps) : TruV K (.ref l) H (!ps.isEmpty) := by
  obtain ⟨ts, h1, _, rfl⟩ := h
  exact .inl ⟨_, lst_of h1, by cases ts <;> rfl⟩
/-- sorted(d) -/
theorem cr_sortedDT {X : Cx} (hcalm : X.calm = true) : CallR X (.builtin "sorted") (fun xs H Q => ∃ d ps g, xs = [V.ref d] ∧ Dct H d ps g ∧ ∀ p H' qs, Same H H' → H p = none → Cells H' p qs → CanP ps qs → qs.length = ps.length → Q (.ref p) H') := by
  intro pins s σ H xs us Q I r h
  obtain ⟨d, ps, g, rfl, ⟨kvs, hd, hm⟩, q⟩ := h
  obtain ⟨u, rfl, rx⟩ := r.one
  cases rx
  obtain ⟨z, hs, ks, prd, o, es, ep, ho, hx, hdt, he, hn⟩ := (show ObjOk X.prog X.w H s.heap d (.dT kvs) from (Rd.of hd).ok I.hok)
  have l1 : es.size = ks.length := size_of_entries he
  have l2 : kvs.length = ks.length := Paired.length prd
  have lim : es.size ≤ sizeLine := by omega
  refine Calls.call_function_entry kind_sorted plain_sorted entry_sorted (args_sorted1 _) ?_
  unfold Builtin.«sorted»
  refine wpAny_bind (m := checkCount "sorted" 1 1 _) (wpAny_pure ?_)
  refine wpAny_bind (PySem.W.kdu_collect (A := X.A.in1) (kdl_raw hs hx hdt) (I.ok.hd hcalm) ho lim fun h' tk acc kp it => ?_)
  -- the key tuples
  have keyAt : ∀ (i : Nat) (x : Pr), ps[i]? = some x → ∃ b, acc.toList[i]? = some (.ref b) ∧ H b = some (.tup [.int x.1, .int x.2]) := fun i x e => by
    have e1 : kvs[i]? = some (keyP x, g x) := by rw [hm.1, List.getElem?_map, e]; rfl
    obtain ⟨b, hb, _, e2, _⟩ := paired_get prd e1
    have q1 := entry_at he i
    rw [hb] at q1
    have li : i < acc.toList.length := by
      rw [Array.length_toList, it.1, l1]
      exact (List.getElem?_eq_some_iff.mp hb).1
    obtain ⟨en, q2, q3⟩ := it.2 i acc.toList[i] (by rw [← Array.getElem?_toList]; exact List.getElem?_eq_getElem li)
    rw [q1] at q2
    have q4 : entryOfKey (tupleKind (mixKind X.prog X.w)) b = en := Option.some.inj q2
    refine ⟨b.2.1, ?_, e2⟩
    rw [List.getElem?_eq_getElem li, q3, ← q4]
    rfl
  have al : acc.toList.length = ps.length := by rw [Array.length_toList, it.1, l1, ← l2, hm.len]
  have lacc : acc.toList.length ≤ sizeLine := by rw [Array.length_toList, it.1]; exact lim
  have I1 : Inv X pins σ H { s with heap := h', toks := tk } := I.kept kp
  refine wpAny_bind (wpAny_newList ?_ lacc)
  have gl : (h'.push (seqObj "list" acc.toList.toArray 0)).get? h'.objs.size = some (seqObj "list" acc.toList.toArray 0) := Heap.get?_push_size _ rfl
  show wpAny _ _ _ _ _ { s with heap := h'.push (seqObj "list" acc.toList.toArray 0), toks := tk }
  generalize hh1 : h'.push (seqObj "list" acc.toList.toArray 0) = h1 at gl ⊢
  generalize acc.toList = vs at *
  have keep1 : ∀ b u, h'.get? b = some u → h1.get? b = some u := fun b u e => by
    rw [← hh1]
    exact Heap.get?_push_of_some _ e
  have own : ∀ v ∈ vs, ∃ b x, v = .ref b ∧ H b = some (.tup [.int x.1, .int x.2]) ∧ (x : Pr) ∈ ps := fun v m => by
    obtain ⟨i, li, e⟩ := List.getElem_of_mem m
    have lp : i < ps.length := by omega
    obtain ⟨b, e1, e2⟩ := keyAt i ps[i] (List.getElem?_eq_getElem lp)
    rw [List.getElem?_eq_getElem li] at e1
    exact ⟨b, ps[i], by rw [← e]; exact Option.some.inj e1, e2, List.getElem_mem lp⟩
  have tin : ∀ b (x : Pr), H b = some (.tup [.int x.1, .int x.2]) → TS.TupInts h1 (.ref b) [x.1, x.2] := fun b x e => tupInts_of (P := X.prog) (w := X.w) (isT_keep (Inv.isT (k := [x.1, x.2]) I1 (tup_of e)) keep1)
  have key : ∀ b (x : Pr), H b = some (.tup [.int x.1, .int x.2]) → pr (TS.intsOf h1 (.ref b)) = x := fun b x e => by
    rw [(tin b x e).ints]
    rfl
  have isP : ∀ v ∈ vs, Srt.IsPair h1 v (pr (TS.intsOf h1 v)).1 (pr (TS.intsOf h1 v)).2 := fun v m => by
    obtain ⟨b, x, rfl, e, _⟩ := own v m
    rw [key b x e]
    have i := tin b x e
    obtain ⟨b2, items, eb, ⟨o1, go1, co1, n1, do1⟩, ia⟩ := i
    cases eb
    obtain ⟨xs⟩ := items
    cases ia with
    | cons _ t1 ia =>
      cases ia with
      | cons _ t2 ia =>
        cases ia
        exact ⟨_, o1, t1, t2, n1, rfl, go1, co1, do1⟩
  have mapK : vs.map (fun v => pr (TS.intsOf h1 v)) = ps := by
    refine List.ext_getElem? fun i => ?_
    rw [List.getElem?_map]
    by_cases li : i < ps.length
    · obtain ⟨b, e1, e2⟩ := keyAt i ps[i] (List.getElem?_eq_getElem li)
      rw [e1, List.getElem?_eq_getElem li]
      exact congrArg some (key b _ e2)
    · rw [List.getElem?_eq_none (by omega), List.getElem?_eq_none (by omega)]
      rfl
  refine wpAny_bind (wpAny_holding (wpAny_call_entry (s := { s with heap := h1, toks := tk }) slot_list_sort ⟨_, gl, rfl⟩ entry_list_sort (SrtO.list_sort_ord (s := { s with heap := h1, toks := tk }) (SrtO.swo_lex fun v => pr (TS.intsOf h1 v)) gl lacc (fun two => SrtO.pairs_sortableO (by omega) isP fun o1 e => ?_) fun out srt stb => ⟨_, rfl, ?_⟩) (args_list_sort _)))
  · have e' : some o1 = some (seqObj "list" vs.toArray 0) := e.symm.trans gl
    cases e'
    intro c
    exact absurd (Value.type.inj c) (by decide)
  · obtain ⟨c, gc⟩ := sortedHeap_at (vs := vs) (out := out.toArray) gl
    have oown : ∀ v ∈ out, ∃ b x, v = Value.ref b ∧ H b = some (.tup [.int x.1, .int x.2]) ∧ (x : Pr) ∈ ps := fun v m => own v (stb.perm.mem_iff.mp m)
    have keepAll : ∀ b u, h'.get? b = some u → (sortedHeap h1 h'.objs.size vs out.toArray).get? b = some u := fun b u g1 => by
      have lt1 := Heap.lt_size g1
      rw [sortedHeap_old (Nat.ne_of_lt lt1) (Heap.lt_size (keep1 b u g1))]
      exact keep1 b u g1
    have nF : H h'.objs.size = none := I1.hok.fresh (Nat.le_refl _)
    let ts : List (Addr × Pr) := out.map fun v => (adr v, pr (TS.intsOf h1 v))
    have eo : ts.map (fun t => Value.ref t.1) = out := by
      rw [List.map_map]
      refine (List.map_congr_left fun v m => ?_).trans (List.map_id _)
      obtain ⟨b, x, rfl, _⟩ := oown v m
      rfl
    have vals : ∀ ts : List (Addr × Pr), Vals (ts.map fun q => V.ref q.1) (ts.map fun q => Value.ref q.1) := fun ts => by
      induction ts with
      | nil => exact .nil
      | cons t ts ih => exact .cons rfl ih
    have lo : ts.length ≤ sizeLine := by
      rw [List.length_map, stb.perm.length_eq]
      exact lacc
    have new : ObjOk X.prog X.w (upd H h'.objs.size (.lst (ts.map fun q => V.ref q.1))) (sortedHeap h1 h'.objs.size vs out.toArray) h'.objs.size (.lst (ts.map fun q => V.ref q.1)) := by
      refine ⟨by rw [List.length_map]; exact lo, ts.map fun q => Value.ref q.1, c, vals ts, ?_⟩
      rw [eo]
      exact gc
    have J := I1.laid (t' := tk) keepAll (Nat.le_refl _) new
    have pmk : (ts.map (·.2)).Perm ps := by
      rw [List.map_map, ← mapK]
      exact stb.perm.map fun v => pr (TS.intsOf h1 v)
    refine wpAny_pure ⟨_, rfl, .ref h'.objs.size, _, J, rfl, q _ _ (ts.map (·.2)) (newS nF) nF ⟨ts, upd_same, fun t m => ?_, rfl⟩ ⟨?_, fun x => pmk.mem_iff⟩ pmk.length_eq⟩
    · obtain ⟨v, m1, rfl⟩ := List.mem_map.mp m
      obtain ⟨b, x, rfl, e, _⟩ := oown v m1
      refine newS nF _ _ ?_
      show H b = some (.tup [.int (pr (TS.intsOf h1 (.ref b))).1, .int (pr (TS.intsOf h1 (.ref b))).2])
      rw [key b x e]
      exact e
    · have nd : (ts.map (·.2)).Nodup := pmk.nodup_iff.mpr hm.2
      rw [List.map_map] at nd ⊢
      refine List.pairwise_map.mpr ((srt.and (List.pairwise_map.mp nd)).imp fun {u v} h => ?_)
      have a1 := SrtO.lexB_no.mp h.1
      have a2 : ¬ ((pr (TS.intsOf h1 u)).1 = (pr (TS.intsOf h1 v)).1 ∧ (pr (TS.intsOf h1 u)).2 = (pr (TS.intsOf h1 v)).2) := fun e => h.2 (Prod.ext e.1 e.2)
      refine ltP_iff.mpr ?_
      show (pr (TS.intsOf h1 u)).1 < (pr (TS.intsOf h1 v)).1 ∨ (pr (TS.intsOf h1 u)).1 = (pr (TS.intsOf h1 v)).1 ∧ (pr (TS.intsOf h1 u)).2 < (pr (TS.intsOf h1 v)).2
      omega
end Vx
namespace Vx
open PySem PySem.Spec PyProof.Rows L2
/-! ### sets of many tuples: i -> 5 i + 1 meets every slot of a table of 2 ^ n slots -/
def S5 : Nat → Nat
  | 0 => 0
  | n + 1 => 5 * S5 n + 1
def T5 (i : Nat) : Nat → Nat
  | 0 => i
  | n + 1 => 5 * T5 i n + 1
theorem T5_S5 (i : Nat) : ∀ d, T5 i d = i + S5 d * (4 * i + 1)
  | 0 => by simp [T5, S5]
  | d + 1 => by
    show 5 * T5 i d + 1 = i + (5 * S5 d + 1) * (4 * i + 1)
    rw [T5_S5 i d, Nat.add_mul, Nat.mul_assoc]
    generalize S5 d * (4 * i + 1) = z
    omega
theorem T5_add (i d : Nat) : ∀ a, T5 i (d + a) = T5 i a + 5 ^ a * (S5 d * (4 * i + 1))
  | 0 => by
    show T5 i d = i + 5 ^ 0 * _
    rw [T5_S5, Nat.pow_zero, Nat.one_mul]
  | a + 1 => by
    show 5 * T5 i (d + a) + 1 = 5 * T5 i a + 1 + 5 ^ (a + 1) * _
    rw [T5_add i d a, Nat.pow_succ, Nat.mul_comm (5 ^ a) 5, Nat.mul_assoc]
    omega
theorem S5_two (e : Nat) : S5 (2 * e) = (5 ^ e + 1) * S5 e := by
  have h := T5_add 0 e e
  have z : ∀ n, T5 0 n = S5 n := fun n => by rw [T5_S5]; simp
  rw [z, z] at h
  rw [show 2 * e = e + e by omega, h, Nat.add_mul]
  simp
  omega
theorem S5_par : ∀ d, S5 d % 2 = d % 2
  | 0 => rfl
  | d + 1 => by
    have := S5_par d
    show (5 * S5 d + 1) % 2 = (d + 1) % 2
    omega
theorem five4 : ∀ e, ∃ q, 5 ^ e = 4 * q + 1
  | 0 => ⟨0, rfl⟩
  | e + 1 => by
    obtain ⟨q, h⟩ := five4 e
    refine ⟨5 * q + 1, ?_⟩
    rw [Nat.pow_succ, h]
    omega
/-- an odd factor is of no help -/
theorem strip_odd {o : Nat} (ho : o % 2 = 1) : ∀ (k x : Nat), 2 ^ k ∣ o * x → 2 ^ k ∣ x
  | 0, x, _ => by simp
  | k + 1, x, h => by
    have h2 : 2 ∣ o * x := Nat.dvd_trans ⟨2 ^ k, by rw [Nat.pow_succ, Nat.mul_comm]⟩ h
    have hx : x % 2 = 0 := by
      have : (o * x) % 2 = 0 := Nat.mod_eq_zero_of_dvd h2
      rw [Nat.mul_mod, ho, Nat.one_mul, Nat.mod_mod] at this
      exact this
    obtain ⟨y, rfl⟩ : ∃ y, x = 2 * y := ⟨x / 2, by omega⟩
    rw [show o * (2 * y) = 2 * (o * y) by rw [Nat.mul_left_comm], Nat.pow_succ, Nat.mul_comm (2 ^ k) 2] at h
    rw [Nat.pow_succ, Nat.mul_comm (2 ^ k) 2]
    exact Nat.mul_dvd_mul_left 2 (strip_odd ho k y (Nat.dvd_of_mul_dvd_mul_left (by decide) h))
theorem S5_dvd : ∀ (k d : Nat), 2 ^ k ∣ S5 d → 2 ^ k ∣ d
  | 0, d, _ => by simp
  | k + 1, d, h => by
    have h2 : 2 ∣ S5 d := Nat.dvd_trans ⟨2 ^ k, by rw [Nat.pow_succ, Nat.mul_comm]⟩ h
    have hd : d % 2 = 0 := by
      rw [← S5_par]
      exact Nat.mod_eq_zero_of_dvd h2
    obtain ⟨e, rfl⟩ : ∃ e, d = 2 * e := ⟨d / 2, by omega⟩
    obtain ⟨q, hq⟩ := five4 e
    rw [S5_two, hq, show 4 * q + 1 + 1 = 2 * (2 * q + 1) by omega, Nat.mul_assoc, Nat.pow_succ, Nat.mul_comm (2 ^ k) 2] at h
    rw [Nat.pow_succ, Nat.mul_comm (2 ^ k) 2]
    exact Nat.mul_dvd_mul_left 2 (S5_dvd k e (strip_odd (by omega) k _ (Nat.dvd_of_mul_dvd_mul_left (by decide) h)))
/-- the masks -/
def Mk (m : Nat) : Prop := ∃ k, m + 1 = 2 ^ k ∧ 3 ≤ k ∧ k ≤ 13
theorem lcgI_T5 {m i : Nat} (hi : i ≤ m) : ∀ n, lcgI m i n = T5 i n % (m + 1)
  | 0 => (Nat.mod_eq_of_lt (Nat.lt_succ_of_le hi)).symm
  | n + 1 => by
    show (lcgI m i n * 5 + 1) % (m + 1) = (5 * T5 i n + 1) % (m + 1)
    rw [lcgI_T5 hi n, Nat.add_mod, Nat.mul_mod, Nat.mod_mod, ← Nat.mul_mod, ← Nat.add_mod, Nat.mul_comm]
theorem lcgI_ne {m i a d : Nat} (hm : Mk m) (hi : i ≤ m) (d0 : 0 < d) (hd : d ≤ m) : lcgI m i (d + a) ≠ lcgI m i a := fun e => by
  obtain ⟨k, ek, _⟩ := hm
  rw [lcgI_T5 hi, lcgI_T5 hi] at e
  have z := Nat.sub_mod_eq_zero_of_mod_eq e
  rw [T5_add, Nat.add_sub_cancel_left, ek] at z
  obtain ⟨q, hq⟩ := five4 a
  have z1 := strip_odd (show 5 ^ a % 2 = 1 by omega) k _ (Nat.dvd_of_mod_eq_zero z)
  rw [Nat.mul_comm] at z1
  have z2 := S5_dvd k d (strip_odd (show (4 * i + 1) % 2 = 1 by omega) k _ z1)
  have := Nat.le_of_dvd d0 z2
  omega
theorem lcgI_lt {m i : Nat} (hi : i ≤ m) : ∀ n, lcgI m i n ≤ m
  | 0 => hi
  | n + 1 => Nat.le_of_lt_succ (Nat.mod_lt _ (Nat.succ_pos _))
theorem lcgI_on {m i j : Nat} (hm : Mk m) (hi : i ≤ m) (hj : j ≤ m) : ∃ n, n ≤ m ∧ lcgI m i n = j := by
  refine Classical.byContradiction fun no => ?_
  have nd : (j :: (List.range (m + 1)).map (lcgI m i)).Nodup := by
    refine List.nodup_cons.mpr ⟨fun mj => ?_, ?_⟩
    · obtain ⟨n, mn, e⟩ := List.mem_map.mp mj
      exact no ⟨n, Nat.le_of_lt_succ (List.mem_range.mp mn), e⟩
    · refine List.pairwise_map.mpr (List.Pairwise.imp_of_mem (fun {a b} ma mb ab e => ?_) List.pairwise_lt_range)
      have := List.mem_range.mp mb
      have ab : a < b := ab
      refine lcgI_ne (a := a) (d := b - a) hm hi (by omega) (by omega) ?_
      rw [show b - a + a = b by omega]
      exact e.symm
  have := nat_nodup_len _ (List.range (m + 1)) nd fun x mx => by
    rcases List.mem_cons.mp mx with e | mx
    · rw [e]
      exact List.mem_range.mpr (Nat.lt_succ_of_le hj)
    · obtain ⟨n, _, rfl⟩ := List.mem_map.mp mx
      exact List.mem_range.mpr (Nat.lt_succ_of_le (lcgI_lt hi n))
  rw [List.length_cons, List.length_map, List.length_range] at this
  omega
theorem runs_on {m j : Nat} (hm : Mk m) (h : Int) (hj : j ≤ m) : ∃ n, n ≤ m + 12 ∧ runI m (SetTable.bits h) n = j := by
  obtain ⟨n, ln, e⟩ := lcgI_on hm (runI_le m (SetTable.bits h) 12) hj
  refine ⟨12 + n, by omega, ?_⟩
  rw [runI_tail (bits_lt h)]
  exact e
theorem way_top {m : Nat} (h : Int) (c : Nat) : way m h c ≤ m := by
  have b := runEnd_bd (m := m) (i := SetTable.bits h % (m + 1)) (Nat.le_of_lt_succ (Nat.mod_lt _ (Nat.succ_pos _)))
  have z := nth_in (m := m) c (runAt m (SetTable.bits h % (m + 1)) (SetTable.bits h)) (by
    show _ % (m + 1) + (SetTable.runEnd m _ - _) ≤ m
    omega)
  have z : way m h c + _ ≤ m := z
  omega
theorem way_on {m j : Nat} (hm : Mk m) (h : Int) (hj : j ≤ m) : ∃ c, c < 10 * SetTable.turns m ∧ way m h c = j := by
  obtain ⟨n, ln, e⟩ := runs_on hm h hj
  obtain ⟨c, lc, e2⟩ := run_nth m (SetTable.bits h) n
  refine ⟨c, ?_, ?_⟩
  · have : SetTable.turns m = m + 15 := rfl
    omega
  · show (nth m _ c).j = j
    rw [e2]
    exact e
/-! ### the table -/
structure Tab (t : SetTable) (hs : List Int) : Prop where
  up : Ris t.place.toList
  nodum : t.dummies = #[]
  size : t.place.size = hs.length
  pow : Mk t.mask
  top : ∀ x ∈ t.place.toList, x ≤ t.mask
  met : ∀ (i : Nat) (g : Int) (j : Nat), hs[i]? = some g → t.place.toList[i]? = some j → ∃ c, way t.mask g c = j ∧ ∀ d < c, way t.mask g d ∈ t.place.toList
theorem Tab.len {t : SetTable} {hs : List Int} (T : Tab t hs) : t.place.toList.length = hs.length := Array.length_toList.trans T.size
theorem Mk.odd {m : Nat} (h : Mk m) : m % 2 = 1 := by
  obtain ⟨k, e, k3, _⟩ := h
  obtain ⟨j, rfl⟩ : ∃ j, k = j + 1 := ⟨k - 1, by omega⟩
  rw [Nat.pow_succ] at e
  omega
theorem Mk.le {m : Nat} (h : Mk m) : m ≤ 8191 := by
  obtain ⟨k, e, _, k13⟩ := h
  have : 2 ^ k ≤ 2 ^ 13 := Nat.pow_le_pow_right (by decide) k13
  omega
/-- where a search ends -/
theorem Tab.gap {t : SetTable} {hs : List Int} (T : Tab t hs) (l : hs.length ≤ t.mask) (g : Int) : ∃ c, c < 10 * SetTable.turns t.mask ∧ way t.mask g c ∉ t.place.toList ∧ ∀ d < c, way t.mask g d ∈ t.place.toList := by
  obtain ⟨j, lj, nj⟩ := st_missing t.place.toList (t.mask + 1) (by rw [T.len]; omega)
  obtain ⟨c0, l0, e0⟩ := way_on T.pow g (Nat.le_of_lt_succ lj)
  obtain ⟨c, lc, hc, low⟩ := st_least (p := fun c => way t.mask g c ∉ t.place.toList) c0 (by rw [e0]; exact nj)
  exact ⟨c, by omega, hc, fun d ld => Classical.not_not.mp (low d ld)⟩
/-- what is in the table is met before that -/
theorem Tab.ahead {t : SetTable} {hs : List Int} (T : Tab t hs) {g : Int} {c i j : Nat} (hc : way t.mask g c ∉ t.place.toList) (hi : hs[i]? = some g) (hj : t.place.toList[i]? = some j) : ∃ d < c, way t.mask g d = j := by
  obtain ⟨d, e, low⟩ := T.met i g j hi hj
  refine ⟨d, Nat.lt_of_not_le fun le => ?_, e⟩
  rcases Nat.eq_or_lt_of_le le with q | q
  · refine hc ?_
    rw [q, e]
    exact List.mem_of_getElem? hj
  · exact hc (low c q)
/-- one more -/
theorem Tab.more {t : SetTable} {hs : List Int} (T : Tab t hs) {g : Int} {c : Nat} (hc : way t.mask g c ∉ t.place.toList) (low : ∀ d < c, way t.mask g d ∈ t.place.toList) :
    ∃ p, (t.put (way t.mask g c)).2 = p ∧ p ≤ hs.length ∧ Tab (t.put (way t.mask g c)).1 (hs.take p ++ g :: hs.drop p) ∧ (t.put (way t.mask g c)).1.fill = hs.length + 1 := by
  obtain ⟨j, hj⟩ : ∃ j, way t.mask g c = j := ⟨_, rfl⟩
  have jt : j ≤ t.mask := hj ▸ way_top g c
  rw [hj] at hc ⊢
  have cut := (below_cut T.up j).1
  refine ⟨SetTable.below t.place j, rfl, T.size ▸ cut, ?_, ?_⟩
  · have lh : SetTable.below t.place j ≤ hs.length := T.size ▸ cut
    have lp : SetTable.below t.place j ≤ t.place.toList.length := T.len ▸ lh
    have pl := put_place t j
    have into : ∀ {x : Nat}, x ∈ t.place.toList → x ∈ (t.put j).1.place.toList := fun h => by
      rw [pl]
      exact L2.mem_ins.mpr (.inr h)
    constructor
    · exact ris_insert T.up fun e => hc (List.mem_of_getElem? ((Array.getElem?_toList).trans e))
    · exact put_dm T.nodum j
    · rw [len_ins hs lh, ← T.len, ← len_ins _ lp j, ← pl, Array.length_toList]
    · exact T.pow
    · intro x mx
      rw [pl] at mx
      exact (L2.mem_ins.mp mx).elim (fun e => e ▸ jt) (T.top x)
    · intro i g' j' hg' hj'
      show ∃ c', way t.mask g' c' = j' ∧ ∀ d < c', way t.mask g' d ∈ (t.put j).1.place.toList
      rw [tins_get hs lh] at hg'
      rw [pl, tins_get _ lp] at hj'
      have old : ∀ n, hs[n]? = some g' → t.place.toList[n]? = some j' → ∃ c', way t.mask g' c' = j' ∧ ∀ d < c', way t.mask g' d ∈ (t.put j).1.place.toList := fun n a b => by
        obtain ⟨c', e, low'⟩ := T.met n g' j' a b
        exact ⟨c', e, fun d ld => into (low' d ld)⟩
      rcases Nat.lt_trichotomy i (SetTable.below t.place j) with z | z | z
      · rw [if_pos z] at hg' hj'
        exact old i hg' hj'
      · have nz : ¬ i < SetTable.below t.place j := by omega
        rw [if_neg nz, if_pos z] at hg' hj'
        cases hg'
        cases hj'
        exact ⟨c, hj, fun d ld => into (low d ld)⟩
      · have nz : ¬ i < SetTable.below t.place j := by omega
        have ne : ¬ i = SetTable.below t.place j := by omega
        rw [if_neg nz, if_neg ne] at hg' hj'
        exact old (i - 1) hg' hj'
  · have lh : SetTable.below t.place j ≤ hs.length := T.size ▸ cut
    have lp : SetTable.below t.place j ≤ t.place.toList.length := T.len ▸ lh
    show (t.put j).1.place.size + (t.put j).1.dummies.size = _
    rw [put_dm T.nodum j, ← Array.length_toList, put_place, len_ins _ lp, T.len]
    rfl
/-! ### laid anew -/
theorem gap_free {m : Nat} (hm : Mk m) (ow : Array (Option Nat)) (g : Int) {j : Nat} (hj : j ≤ m) (fr : oAt ow j = none) :
    ∃ c, SetTable.layClean.free m ow (SetTable.turns m) (SetTable.bits g % (m + 1)) (SetTable.bits g) = some (way m g c) ∧ oAt ow (way m g c) = none ∧ ∀ d < c, oAt ow (way m g d) ≠ none := by
  obtain ⟨n, ln, e⟩ := runs_on hm g hj
  have at_n : way m g (off m (SetTable.bits g % (m + 1)) (SetTable.bits g) n) = j := by
    unfold way
    rw [nth_off, itL_run]
    exact e
  obtain ⟨c, lc, hc, low⟩ := st_least (p := fun c => oAt ow (way m g c) = none) _ (by rw [at_n]; exact fr)
  have t15 : SetTable.turns m = m + 15 := rfl
  refine ⟨c, free_spec m ow _ n _ _ c (by omega) lc (fun d ld => ?_) ?_, hc, low⟩
  · show (oAt ow (way m g d)).isNone = false
    cases z : oAt ow (way m g d) with
    | none => exact (low d ld z).elim
    | some _ => rfl
  · show (oAt ow (way m g c)).isNone = true
    rw [hc]
    rfl
theorem own_next {m : Nat} (hm : Mk m) {hs : List Int} {ow : Array (Option Nat)} (W : Own m hs ow) (l : hs.length ≤ m) (g : Int) :
    ∃ j, SetTable.layClean.free m ow (SetTable.turns m) (SetTable.bits g % (m + 1)) (SetTable.bits g) = some j ∧ Own m (hs ++ [g]) (ow.setIfInBounds j (some hs.length)) := by
  obtain ⟨us, lu, hu⟩ := W.ps
  obtain ⟨j0, l0, n0⟩ := st_missing us (m + 1) (by omega)
  have f0 : oAt ow j0 = none := Classical.byContradiction fun z => n0 (hu j0 (Nat.le_of_lt_succ l0) z)
  obtain ⟨c, e, hc, low⟩ := gap_free hm ow g (Nat.le_of_lt_succ l0) f0
  obtain ⟨j, ej⟩ : ∃ j, way m g c = j := ⟨_, rfl⟩
  have jm : j ≤ m := ej ▸ way_top g c
  rw [ej] at e hc
  have js : j < ow.size := by
    rw [W.sz]
    omega
  refine ⟨j, e, ?_⟩
  have here := oAt_set_self (some hs.length) js
  have there : ∀ {i : Nat}, i ≠ j → oAt (ow.setIfInBounds j (some hs.length)) i = oAt ow i := fun ne => oAt_set_ne _ ne
  have keep : ∀ {i : Nat}, oAt ow i ≠ none → oAt (ow.setIfInBounds j (some hs.length)) i ≠ none := fun {i} h => by
    by_cases z : i = j
    · rw [z, here]
      intro y
      cases y
    · rwa [there z]
  constructor
  · rw [Array.size_setIfInBounds, W.sz]
  · intro i k li hk
    by_cases z : i = j
    · rw [z, here] at hk
      cases hk
      exact ⟨g, c, by simp, ej.trans z.symm, fun d ld => keep (low d ld)⟩
    · rw [there z] at hk
      obtain ⟨g', c', a1, a2, a3⟩ := W.at_ i k li hk
      exact ⟨g', c', by rw [List.getElem?_append_left (List.getElem?_eq_some_iff.mp a1).1, a1], a2, fun d ld => keep (a3 d ld)⟩
  · intro k lk
    by_cases z : k = hs.length
    · subst z
      exact ⟨j, jm, here⟩
    · obtain ⟨i, li, hi⟩ := W.all k (by rw [List.length_append, List.length_singleton] at lk; omega)
      refine ⟨i, li, ?_⟩
      rwa [there fun y => ?_]
      rw [y, hc] at hi
      cases hi
  · refine ⟨j :: us, by simp [lu], fun i li hi => ?_⟩
    by_cases z : i = j
    · rw [z]
      exact List.mem_cons_self
    · rw [there z] at hi
      exact List.mem_cons_of_mem _ (hu i li hi)
theorem own_all {m : Nat} (hm : Mk m) : ∀ (gs hs : List Int) (ow : Array (Option Nat)), Own m hs ow → hs.length + gs.length ≤ m →
    ∃ ow', gs.foldl (stepF m) (some (ow, hs.length)) = some (ow', hs.length + gs.length) ∧ Own m (hs ++ gs) ow'
  | [], hs, ow, W, _ => ⟨ow, rfl, by rwa [List.append_nil]⟩
  | g :: gs, hs, ow, W, l => by
    rw [List.length_cons] at l ⊢
    obtain ⟨j, e, W1⟩ := own_next hm W (by omega) g
    have l1 : (hs ++ [g]).length = hs.length + 1 := by simp
    obtain ⟨ow', f, W2⟩ := own_all hm gs _ _ W1 (by omega)
    rw [l1] at f
    rw [List.append_assoc] at W2
    refine ⟨ow', ?_, W2⟩
    rw [List.foldl_cons, stepF_some e, f]
    congr 2
    omega
theorem lay_all {m : Nat} (hm : Mk m) {hs : Array Int} (l : hs.size ≤ m) : ∃ ow, SetTable.layClean m hs = some ow ∧ Own m hs.toList ow := by
  obtain ⟨ow, f, W⟩ := own_all hm hs.toList [] _ (Own.init m) (by rw [Array.length_toList]; show 0 + hs.size ≤ m; omega)
  rw [List.nil_append] at W
  refine ⟨ow, ?_, W⟩
  rw [layClean_eq]
  have f : hs.toList.foldl (stepF m) (some (Array.replicate (m + 1) none, 0)) = some (ow, _) := f
  rw [f]
  rfl
theorem relaid_tab (t : SetTable) {hs : Array Int} {wt m : Nat} (hw : SetTable.sizeAbove wt = m + 1) (hm : Mk m) (l : hs.size ≤ m) :
    ∃ t' od, t.relaid hs wt = some (t', od) ∧ od.toList.Perm (List.range hs.size) ∧ Tab t' (od.toList.map fun i => hs.getD i 0) ∧ t'.mask = m ∧ t'.led = t.led ∧ t'.plain = t.plain := by
  obtain ⟨ow, e, W⟩ := lay_all hm l
  have hw' : SetTable.sizeAbove wt - 1 = m := by omega
  have live := @mem_live m ow W.sz
  have ris := ris_live (fun j => ow.getD j none) (List.range (m + 1)) (show List.Pairwise (· < ·) _ from List.pairwise_lt_range)
  have nd : ((liveOf m ow).map (·.1)).Nodup := List.Pairwise.imp (fun {a b} (h : a < b) => Nat.ne_of_lt h) (show List.Pairwise (· < ·) ((liveOf m ow).map (·.1)) from ris.1)
  have size : (liveOf m ow).length = hs.size := by
    refine Nat.le_antisymm ?_ ?_
    · obtain ⟨us, lu, hu⟩ := W.ps
      have := nat_nodup_len _ us nd fun x mx => by
        obtain ⟨⟨y, k⟩, my, rfl⟩ := List.mem_map.mp mx
        obtain ⟨z1, z2⟩ := live.mp my
        exact hu y z1 (by rw [z2]; intro q; cases q)
      rwa [List.length_map, lu, Array.length_toList] at this
    · have := nat_nodup_len (List.range hs.size) ((liveOf m ow).map (·.2)) List.nodup_range fun k mk => by
        obtain ⟨j, z1, z2⟩ := W.all k (by rw [Array.length_toList]; exact List.mem_range.mp mk)
        exact List.mem_map.mpr ⟨(j, k), live.mpr ⟨z1, z2⟩, rfl⟩
      rwa [List.length_range, List.length_map] at this
  refine ⟨tabOf t m ow, ((liveOf m ow).map (·.2)).toArray, ?_, ?_, ?_, rfl, rfl, rfl⟩
  · rw [relaid_eq, hw', e]
    rfl
  · refine perm_range _ _ (by simp [size]) fun k lk => ?_
    obtain ⟨j, z1, z2⟩ := W.all k (by rw [Array.length_toList]; exact lk)
    exact List.mem_map.mpr ⟨(j, k), live.mpr ⟨z1, z2⟩, rfl⟩
  · refine ⟨ris.1, rfl, ?_, hm, fun x mx => Nat.le_of_lt_succ (List.mem_range.mp (ris.2 x mx)), fun i g j hg hj => ?_⟩
    · show ((liveOf m ow).map (·.1)).toArray.size = _
      simp
    · have hg : (((liveOf m ow).map (·.2)).map fun i => hs.getD i 0)[i]? = some g := hg
      have hj : ((liveOf m ow).map (·.1))[i]? = some j := hj
      rw [List.getElem?_map] at hj
      obtain ⟨⟨y, k⟩, hq, rfl⟩ := Option.map_eq_some_iff.mp hj
      rw [List.getElem?_map, List.getElem?_map, hq] at hg
      have hg : hs.getD k 0 = g := Option.some.inj hg
      obtain ⟨z1, z2⟩ := live.mp (List.mem_of_getElem? hq)
      obtain ⟨g', c, a1, a2, a3⟩ := W.at_ y k z1 z2
      have eg : g' = g := by
        rw [← hg, Array.getD_eq_getD_getElem?, ← Array.getElem?_toList, a1]
        rfl
      subst eg
      refine ⟨c, a2, fun d ld => ?_⟩
      show way m g' d ∈ (liveOf m ow).map (·.1)
      cases q : oAt ow (way m g' d) with
      | none => exact (a3 d ld q).elim
      | some k' => exact List.mem_map.mpr ⟨(_, k'), live.mpr ⟨way_top g' d, q⟩, rfl⟩
end Vx
namespace Vx
open PySem PySem.Spec PyProof.Rows L2
/-! ### a set of up to some thousand tuples -/
def seat (m : Nat) (g : Int) (c : Nat) : SetTable.Probe := nth m (runAt m (SetTable.bits g % (m + 1)) (SetTable.bits g)) c
theorem seat_j (m : Nat) (g : Int) (c : Nat) : (seat m g c).j = way m g c := rfl
theorem seat_add (m : Nat) (g : Int) (c q : Nat) : nth m (seat m g c) q = seat m g (c + q) := (nth_add m c _ q).symm
theorem nth_dummy (m : Nat) : ∀ (n : Nat) (p : SetTable.Probe), p.dummy = none → (nth m p n).dummy = none
  | 0, _, h => h
  | n + 1, p, h => nth_dummy m n (adv m p) (by unfold adv; split <;> exact h)
theorem seat_dummy (m : Nat) (g : Int) (c : Nat) : (seat m g c).dummy = none := nth_dummy m c _ rfl
abbrev hashes (P : Program) (w : World) (L : List (Addr × List Int)) : List Int := L.map fun p => thash P w p.2
structure MT (P : Program) (w : World) (h : Heap) (a : Addr) (L : List (Addr × List Int)) (es : Array (Int × Value)) (ep : Nat) (t : SetTable) : Prop where
  obj : ∃ o, h.get? a = some o ∧ o.ExactSet ∧ o.data = .set es ep t
  rws : es.toList = rowsOf P w L
  tb : Tab t (hashes P w L)
  ndp : (L.map (·.2)).Nodup
  tps : ∀ p ∈ L, IsT P w h p.2 p.1
  pln : t.plain = true
  ld : w.params.followText "set-order" = true ∨ t.led = true
  roomy : L.length * 5 < t.mask * 3
section
variable {P : Program} {w : World} {A : Around} {E : Value → Shared → Prop} {s : Shared} {a : Addr} {L : List (Addr × List Int)} {es : Array (Int × Value)} {ep : Nat} {t : SetTable}
theorem rows_size (h : es.toList = rowsOf P w L) : es.size = L.length := by
  rw [← Array.length_toList, h]
  exact List.length_map _
theorem MT.sz (R : MT P w s.heap a L es ep t) : es.size = L.length := rows_size R.rws
theorem MT.place (R : MT P w s.heap a L es ep t) : t.place.size = L.length := R.tb.size.trans (List.length_map _)
theorem fits_of {n : Nat} (h1 : t.place.size = n) (h2 : t.dummies = #[]) (h3 : n ≤ t.mask) : t.fits n = true := by
  unfold SetTable.fits SetTable.fill
  rw [h2, h1]
  simp [h3]
theorem MT.fit (R : MT P w s.heap a L es ep t) : t.fits es.size = true := by
  have := R.roomy
  have := R.sz
  exact fits_of (R.place.trans R.sz.symm) R.tb.nodum (by omega)
theorem MT.row (R : MT P w s.heap a L es ep t) {i : Nat} {p : Addr × List Int} (h : L[i]? = some p) : es[i]? = some (thash P w p.2, .ref p.1) := by
  rw [← Array.getElem?_toList, R.rws, rowsOf, List.getElem?_map, h]
  rfl
theorem MT.stays (R : MT P w s.heap a L es ep t) : ¬ t.gaveWay = true := by
  have := R.tb.pow.odd
  unfold SetTable.gaveWay
  simp [this]
/-- the search, from the c-th seat on; C is the first free one -/
theorem MT.seek (R : MT P w s.heap a L es ep t) {x : Addr} {k : List Int} (hx : IsT P w s.heap k x) (hu : A.units < cLine) {C : Nat} (hC : C < 10 * SetTable.turns t.mask)
    (free : way t.mask (thash P w k) C ∉ t.place.toList) (full : ∀ d < C, way t.mask (thash P w k) d ∈ t.place.toList) {Q : SetFound → Shared → Prop}
    (yes : k ∈ L.map (·.2) → Q (.there none) s) (no : k ∉ L.map (·.2) → Q (.free (way t.mask (thash P w k) C) false) s) : ∀ (f c : Nat) (st : Option SetTable.Probe),
      st.getD (t.probeStart (thash P w k)) = seat t.mask (thash P w k) c → c ≤ C → C < c + f →
      (∀ (i : Nat) (p : Addr × List Int), L[i]? = some p → p.2 = k → ∃ d, c ≤ d ∧ d < C ∧ t.place.toList[i]? = some (way t.mask (thash P w k) d)) →
      wpAny (model P w) A (setSearchFrom a (.ref x) (thash P w k) true f st) Q E s := by
  obtain ⟨o, go, xo, dat⟩ := R.obj
  obtain ⟨g, eg⟩ : ∃ g, thash P w k = g := ⟨_, rfl⟩
  rw [eg] at free full no ⊢
  intro f
  induction f with
  | zero => intro c st _ _ lt; omega
  | succ f ih =>
    intro c st hst le lt ahead
    rw [setSearchFrom_succ]
    refine wpAny_bind (wpAny_setState_of go dat R.fit ?_)
    dsimp only
    refine wp_if_neg R.stays ?_
    try refine wpAny_bind (wpAny_pure ?_)
    have lookup := go_spec t R.tb.up R.tb.nodum (fun i => (es[i]?.map (·.1)).getD 0) g (10 * SetTable.turns t.mask) (C - c) (seat t.mask g c) (seat_dummy _ _ _) (by omega)
      (fun d ld => by rw [seat_add]; exact full _ (by omega)) (by rw [seat_add, show c + (C - c) = C by omega]; exact free)
    simp only [seat_add, seat_j] at lookup
    have hash : ∀ (i : Nat) (p : Addr × List Int), L[i]? = some p → p.2 = k → ((es[i]?.map (·.1)).getD 0) = g := fun i p h e => by
      rw [R.row h, e]
      exact eg
    have probe : t.probe (fun i => (es[i]?.map (·.1)).getD 0) g (st.getD (t.probeStart g)) = SetTable.probe.go t (fun i => (es[i]?.map (·.1)).getD 0) g (10 * SetTable.turns t.mask) (seat t.mask g c) := by rw [hst]; rfl
    rw [probe]
    rcases lookup with ⟨q, i, lq, hi, _, before, res⟩ | ⟨none', res⟩
    · rw [res]
      dsimp only
      obtain ⟨p, hp⟩ : ∃ p, L[i]? = some p := by
        have li := (List.getElem?_eq_some_iff.mp hi).1
        rw [Array.length_toList, R.place] at li
        exact ⟨_, List.getElem?_eq_getElem li⟩
      have mp := List.mem_of_getElem? hp
      have hsl := slot_live R.tb.up hi
      have go_on : wpAny (model P w) A (searchRest a (.ref x) g true f es t (way t.mask g (c + q)) i (seat t.mask g (c + (q + 1)))) Q E s := by
        unfold searchRest
        rw [R.row hp]
        dsimp only
        refine wpAny_bind (wpAny_holding (wpAny_eqBool_tuple hu (R.tps p mp) hx ?_))
        refine wpAny_bind (wpAny_setState_of go dat R.fit ?_)
        dsimp only
        by_cases same : p.2 = k
        · exact wp_if_pos (by simp [same]) (wpAny_pure (yes (List.mem_map.mpr ⟨p, mp, same⟩)))
        · refine wp_if_neg (by simp [same]) ?_
          try refine wpAny_bind (wpAny_pure ?_)
          rw [sameMem]
          dsimp only
          simp only [if_true, hsl, R.row hp]
          refine wpAny_bind (wpAny_isSame_ref_self (wpAny_bind (wpAny_pure ?_)))
          simp only [if_true]
          refine wp_if_neg (by simp [same]) (ih (c + (q + 1)) _ rfl (by omega) (by omega) fun i' p' h' e' => ?_)
          obtain ⟨d, b1, b2, b3⟩ := ahead i' p' h' e'
          refine ⟨d, Nat.lt_of_not_le fun le' => ?_, b2, b3⟩
          rcases Nat.eq_or_lt_of_le le' with e | l
          · rw [e] at b3
            have z := (slot_live R.tb.up b3).symm.trans hsl
            injection z with z
            rw [z, hp] at h'
            cases h'
            exact same e'
          · have l : d < c + q := l
            exact before (d - c) i' (by omega) (by rw [show c + (d - c) = d by omega]; exact b3) (hash i' p' h' e')
      by_cases lead : t.led = true
      · refine wp_if_neg (by simp [lead]) ?_
        try refine wpAny_bind (wpAny_pure ?_)
        exact go_on
      · refine wp_if_pos (by simp [lead]) (wpAny_bind (seen_tup hx (fun y my => ?_) (wp_if_neg (by decide) ?_)))
        · obtain ⟨e, me, rfl⟩ := List.mem_map.mp my
          have me : e ∈ es.toList := by
            have : e ∈ es ∧ e.1 = g := by simpa using me
            simpa using this.1
          rw [R.rws] at me
          obtain ⟨p', mp', rfl⟩ := List.mem_map.mp me
          exact ⟨_, _, rfl, R.tps p' mp'⟩
        · try refine wpAny_bind (wpAny_pure ?_)
          exact go_on
    · rw [res, show c + (C - c) = C by omega]
      dsimp only
      refine wpAny_pure (no fun m => ?_)
      obtain ⟨p, mp, e⟩ := List.mem_map.mp m
      obtain ⟨i, li, ei⟩ := List.getElem_of_mem mp
      have h' : L[i]? = some p := by rw [List.getElem?_eq_getElem li, ei]
      obtain ⟨d, b1, b2, b3⟩ := ahead i p h' e
      exact none' (d - c) i (by omega) (by rw [show c + (d - c) = d by omega]; exact b3) (hash i p h' e)
theorem MT.search (R : MT P w s.heap a L es ep t) {x : Addr} {k : List Int} (hx : IsT P w s.heap k x) (hu : A.units < cLine) {Q : SetFound → Shared → Prop} (yes : k ∈ L.map (·.2) → Q (.there none) s)
    (no : ∀ C, k ∉ L.map (·.2) → way t.mask (thash P w k) C ∉ t.place.toList → (∀ d < C, way t.mask (thash P w k) d ∈ t.place.toList) → Q (.free (way t.mask (thash P w k) C) false) s) :
    wpAny (model P w) A (setSearch a (.ref x) (thash P w k) true) Q E s := by
  have rm := R.roomy
  have big := R.tb.pow.le
  obtain ⟨C, hC, free, full⟩ := R.tb.gap (by rw [hashes, List.length_map]; omega) (thash P w k)
  have t15 : SetTable.turns t.mask = t.mask + 15 := rfl
  unfold setSearch
  refine R.seek hx hu hC free full yes (fun n => no C n free full) 100000 0 none rfl (Nat.zero_le _) (by omega) fun i p hp e => ?_
  have li : i < t.place.toList.length := by
    rw [Array.length_toList, R.place]
    exact (List.getElem?_eq_some_iff.mp hp).1
  obtain ⟨d, ld, e2⟩ := R.tb.ahead (i := i) free (by rw [hashes, List.getElem?_map, hp, ← e]; rfl) (List.getElem?_eq_getElem li)
  exact ⟨d, Nat.zero_le _, ld, by rw [e2]; exact List.getElem?_eq_getElem li⟩
theorem MT.relay {o : Obj} (go : s.heap.get? a = some o) (xo : o.ExactSet) (dat : o.data = .set es ep t) (rws : es.toList = rowsOf P w L) (pl : t.place.size = es.size) (dm : t.dummies = #[]) (fl : es.size ≤ t.mask)
    (nd : (L.map (·.2)).Nodup) (tps : ∀ p ∈ L, IsT P w s.heap p.2 p.1) (pn : t.plain = true) (led : w.params.followText "set-order" = true ∨ t.led = true) {wt m : Nat} (hw : SetTable.sizeAbove wt = m + 1) (hm : Mk m) (rm : L.length * 5 < m * 3)
    {Q : Unit → Shared → Prop} (hQ : ∀ h' L' es' ep' t', Heap.SameBut a s.heap h' → MT P w h' a L' es' ep' t' → t'.mask = m → L'.Perm L → Q () { s with heap := h' }) : wpAny (model P w) A (setRelay a wt) Q E s := by
  have sz := rows_size rws
  have big := hm.le
  obtain ⟨t', od, e, pm, T, em, el, ep'⟩ := relaid_tab t (hs := es.map (·.1)) hw hm (by rw [Array.size_map, sz]; omega)
  rw [Array.size_map, sz] at pm
  obtain ⟨L2, r1, r2, r3⟩ := order_rows L es od rws pm
  rw [← r3] at T
  have sz2 : (od.filterMap (es[·]?)).size = es.size := (rows_size r1).trans (r2.length_eq.trans sz.symm)
  have line := sizeLine_eq
  rw [setRelay_eq]
  refine wpAny_bind (wpAny_setState_of go dat (fits_of pl dm fl) ?_)
  dsimp only
  refine wp_if_neg (by omega) ?_
  try refine wpAny_bind (wpAny_pure ?_)
  rw [e]
  dsimp only
  refine wpAny_bind (wp_if_neg (by simp [sz2]) ?_)
  try refine wpAny_bind (wpAny_pure ?_)
  refine wpAny_pure ?_
  dsimp only
  have but : Heap.SameBut a s.heap (s.heap.update a (Obj.putSet (od.filterMap (es[·]?)) t')) := Heap.SameBut.update ..
  refine wpAny_storeSet_of go dat (hQ _ L2 _ (ep + 1) t' but ⟨⟨_, store_at go dat, ⟨xo.1, xo.2.1, xo.2.2⟩, rfl⟩, r1, T, (r2.map (·.2)).nodup_iff.mpr nd, fun p mp => isT_same (tps p (r2.mem_iff.mp mp)) go dat but, ep' ▸ pn, el ▸ led, ?_⟩ em r2) (by omega)
  rw [r2.length_eq, em]
  exact rm
theorem mk7 : Mk 7 := ⟨3, rfl, by decide, by decide⟩
/-- the next size of a table -/
theorem next_size {n m : Nat} (hm : m = 7 ∨ m = 31 ∨ m = 127 ∨ m = 511 ∨ m = 2047) (l : n * 5 < m * 3) (u : (n + 1) * 5 ≥ m * 3) : ∃ m', SetTable.sizeAbove (SetTable.grown (n + 1)) = m' + 1 ∧ Mk m' ∧ (n + 1) * 5 < m' * 3 ∧ (m' = 31 ∨ m' = 127 ∨ m' = 511 ∨ m' = 2047 ∨ m' = 8191) := by
  rcases hm with e | e | e | e | e <;> subst e
  · obtain rfl : n = 4 := by omega
    exact ⟨31, by decide +kernel, ⟨5, rfl, by decide, by decide⟩, by decide, .inl rfl⟩
  · obtain rfl : n = 18 := by omega
    exact ⟨127, by decide +kernel, ⟨7, rfl, by decide, by decide⟩, by decide, .inr (.inl rfl)⟩
  · obtain rfl : n = 76 := by omega
    exact ⟨511, by decide +kernel, ⟨9, rfl, by decide, by decide⟩, by decide, .inr (.inr (.inl rfl))⟩
  · obtain rfl : n = 306 := by omega
    exact ⟨2047, by decide +kernel, ⟨11, rfl, by decide, by decide⟩, by decide, .inr (.inr (.inr (.inl rfl)))⟩
  · obtain rfl : n = 1228 := by omega
    exact ⟨8191, by decide +kernel, ⟨13, rfl, by decide, by decide⟩, by decide, .inr (.inr (.inr (.inr rfl)))⟩
end
end Vx
namespace Vx
open PySem PySem.Spec PyProof.Rows L2
section
variable {P : Program} {w : World} {A : Around} {E : Value → Shared → Prop} {s : Shared} {a : Addr} {L : List (Addr × List Int)} {es : Array (Int × Value)} {ep : Nat} {t : SetTable}
def Size6 (m : Nat) : Prop := m = 7 ∨ m = 31 ∨ m = 127 ∨ m = 511 ∨ m = 2047 ∨ m = 8191
/-- one tuple added -/
theorem MT.add (R : MT P w s.heap a L es ep t) (z6 : Size6 t.mask) {x : Addr} {k : List Int} (hx : IsT P w s.heap k x) (hu : A.units < cLine) (few : L.length < 4500) {Q : Bool → Shared → Prop}
    (hQ : ∀ b h' L' es' ep' t', Heap.SameBut a s.heap h' → MT P w h' a L' es' ep' t' → Size6 t'.mask → ((k ∈ L.map (·.2) ∧ L' = L) ∨ (k ∉ L.map (·.2) ∧ L'.Perm ((x, k) :: L))) → Q b { s with heap := h' }) :
    wpAny (model P w) A (setAddHashed a (.ref x) (thash P w k)) Q E s := by
  obtain ⟨o, go, xo, dat⟩ := R.obj
  have sz := R.sz
  have rm := R.roomy
  have line := sizeLine_eq
  unfold setAddHashed
  rw [show (100000 : Nat) = 99999 + 1 from rfl]
  refine wpAny_holding ?_
  rw [setAddHashedIn_succ]
  refine wpAny_bind (wpAny_setState_of go dat R.fit ?_)
  dsimp only
  refine wp_if_neg (by simp [byScan, Value.scannable]) ?_
  try refine wpAny_bind (wpAny_pure ?_)
  refine wpAny_bind (R.search hx hu (fun m => ?_) fun C m free full => ?_)
  · dsimp only
    exact wpAny_pure (hQ false s.heap L es ep t (Heap.SameBut.refl a s.heap) R z6 (.inl ⟨m, rfl⟩))
  · dsimp only
    refine wpAny_bind (wpAny_setState_of go dat R.fit ?_)
    dsimp only
    obtain ⟨p, ep1, lp, T1, fl⟩ := R.tb.more free full
    have pn1 : (t.put (way t.mask (thash P w k) C)).1.plain = true := R.pln
    have ld1 : w.params.followText "set-order" = true ∨ (t.put (way t.mask (thash P w k) C)).1.led = true := R.ld
    have mk1 : (t.put (way t.mask (thash P w k) C)).1.mask = t.mask := rfl
    generalize hpt : t.put (way t.mask (thash P w k) C) = pt at ep1 T1 fl pn1 ld1 mk1 ⊢
    obtain ⟨t1, p1⟩ := pt
    dsimp only at ep1 T1 fl pn1 ld1 mk1 ⊢
    subst ep1
    first
      | (refine wpAny_bind ?_; refine wp_if_pos pn1 ?_; refine hashBy_tup hx ?_)
      | refine wp_if_pos pn1 (wpAny_bind (hashBy_tup hx ?_))
    simp only [if_true]
    have ins : (SetTable.insertAt es p1 (thash P w k, Value.ref x)).toList = rowsOf P w (L.take p1 ++ (x, k) :: L.drop p1) := by
      rw [SetTable.toList_insertAt, R.rws, rows_put]
    have pm := put_perm L p1 (x, k)
    have hh : (hashes P w L).take p1 ++ thash P w k :: (hashes P w L).drop p1 = hashes P w (L.take p1 ++ (x, k) :: L.drop p1) := by
      unfold hashes
      rw [List.map_append, List.map_cons, List.map_take, List.map_drop]
    rw [hh] at T1
    rw [hashes, List.length_map] at fl
    generalize SetTable.insertAt es p1 (thash P w k, Value.ref x) = es1 at ins ⊢
    generalize L.take p1 ++ (x, k) :: L.drop p1 = L1 at pm T1 ins
    have l1 : L1.length = L.length + 1 := pm.length_eq
    have sz1 : es1.size = L.length + 1 := (rows_size ins).trans l1
    have nd1 : (L1.map (·.2)).Nodup := (pm.map (·.2)).nodup_iff.mpr (List.nodup_cons.mpr ⟨m, R.ndp⟩)
    refine wpAny_bind (wpAny_storeSet_of go dat ?_ (by omega))
    have but : Heap.SameBut a s.heap (s.heap.update a (Obj.putSet es1 t1)) := Heap.SameBut.update ..
    have go1 := store_at (es' := es1) (t' := t1) go dat
    generalize s.heap.update a (Obj.putSet es1 t1) = h1 at but go1 ⊢
    have tps1 : ∀ p ∈ L1, IsT P w h1 p.2 p.1 := fun p mp => (List.mem_cons.mp (pm.mem_iff.mp mp)).elim (fun e => e ▸ isT_same hx go dat but) fun mp => isT_same (R.tps p mp) go dat but
    have pl1 : t1.place.size = L1.length := T1.size.trans (List.length_map _)
    by_cases full1 : t1.tooFull = true
    · first
        | (refine wpAny_bind ?_; refine wp_if_pos (by simp [full1]) ?_)
        | (refine wp_if_pos (by simp [full1]) ?_; refine wpAny_bind ?_)
      have up : (L.length + 1) * 5 ≥ t.mask * 3 := by
        unfold SetTable.tooFull at full1
        rw [decide_eq_true_eq, fl, mk1] at full1
        exact full1
      have z5 : t.mask = 7 ∨ t.mask = 31 ∨ t.mask = 127 ∨ t.mask = 511 ∨ t.mask = 2047 := by
        rcases z6 with z | z | z | z | z | z
        · exact .inl z
        · exact .inr (.inl z)
        · exact .inr (.inr (.inl z))
        · exact .inr (.inr (.inr (.inl z)))
        · exact .inr (.inr (.inr (.inr z)))
        · omega
      obtain ⟨m', e1, e2, e3, e4⟩ := next_size z5 rm up
      rw [sz]
      refine MT.relay (s := { s with heap := h1 }) (L := L1) go1 ⟨xo.1, xo.2.1, xo.2.2⟩ rfl ins (by omega) T1.nodum (by omega) nd1 tps1 pn1 ld1 e1 e2 (by rw [l1]; exact e3) fun h2 L2 es2 ep2 t2 but2 R2 em2 pm2 => ?_
      have l2 : L2.length = L.length + 1 := pm2.length_eq.trans l1
      have z2 : Size6 t2.mask := by
        rw [em2]
        exact .inr e4
      exact wpAny_pure (hQ true h2 L2 es2 ep2 t2 (but.trans but2) R2 z2 (.inr ⟨m, pm2.trans pm⟩))
    · first
        | refine wp_if_neg (by simp [full1]) ?_
        | (refine wpAny_bind ?_; refine wp_if_neg (by simp [full1]) ?_; refine wpAny_pure ?_)
      refine wpAny_pure (hQ true h1 L1 es1 (ep + 1) t1 but ⟨⟨_, go1, ⟨xo.1, xo.2.1, xo.2.2⟩, rfl⟩, ins, T1, nd1, tps1, pn1, ld1, ?_⟩ (mk1 ▸ z6) (.inr ⟨m, pm⟩))
      unfold SetTable.tooFull at full1
      rw [decide_eq_true_eq, fl] at full1
      omega
theorem MT.up {h h' : Heap} (R : MT P w h a L es ep t) (ha : ∀ o, h.get? a = some o → h'.get? a = some o) (ht : ∀ p ∈ L, IsT P w h' p.2 p.1) : MT P w h' a L es ep t := by
  obtain ⟨⟨o, g, r⟩, r1, r2, r3, _, r5, r6, r7⟩ := R
  exact ⟨⟨o, ha o g, r⟩, r1, r2, r3, ht, r5, r6, r7⟩
theorem MT.empty {h : Heap} (ho : h.get? a = some (bareSet w)) : MT P w h a [] #[] 0 (.fresh 0 0 (!w.params.followText "set-order")) := by
  refine ⟨⟨_, ho, ⟨rfl, rfl, rfl⟩, rfl⟩, rfl, ⟨List.Pairwise.nil, rfl, rfl, mk7, fun x m => (by cases m), fun i g j e => (by simp at e)⟩, List.nodup_nil, fun p m => (by cases m), rfl, ?_, (by show 0 * 5 < 7 * 3; decide)⟩
  cases z : w.params.followText "set-order"
  · exact .inr rfl
  · exact .inl rfl
/-- all of them, one after the other -/
theorem add_all {I : Addr} {fp wr : List Addr} {G : Array GenState → Array GenState → Prop} {n : Nat} {Pv : Nat → Value → Prop} {St : Nat → Shared → Prop} {Z : Result → Shared → Prop} (W : WalksS P w A.in1 I fp wr G n Pv St) (S : Addr) (out : S ∉ fp)
    (ks : List (Addr × List Int)) (hn : n = ks.length) (few : ks.length ≤ 4500) (val : ∀ i v, Pv i v → ∃ p, ks[i]? = some p ∧ v = .ref p.1) (h0 : Heap) (hk : ∀ p ∈ ks, IsT P w h0 p.2 p.1) (nS : h0.get? S = none) (nw : ∀ b ∈ wr, h0.get? b = none) (hu : A.in1.units < cLine) :
    ∀ (d i : Nat) (s : Shared), i + d = n → St i s → (∀ b o, h0.get? b = some o → s.heap.get? b = some o) → (∃ L es ep t, MT P w s.heap S L es ep t ∧ Size6 t.mask ∧ Got ks i L) →
      (∀ s' L es ep t, Moved (S :: wr) G s s' → MT P w s'.heap S L es ep t → Size6 t.mask → Got ks n L → Z (.ok (.ret .none)) s') →
      codeAny (model P w) A (.builtin "set.update.loop" ⟨[.ref S, .ref I], []⟩) Z s := by
  have offw : S ∉ wr := fun m => out (W.sub _ m)
  have wider : ∀ b ∈ wr, b ∈ S :: wr := fun b m => List.mem_cons_of_mem _ m
  have still : ∀ {s s' : Shared}, Moved wr G s s' → (∀ b o, h0.get? b = some o → s.heap.get? b = some o) → ∀ b o, h0.get? b = some o → s'.heap.get? b = some o := fun mv kp b o e =>
    mv.heap b o (fun m => by rw [nw b m] at e; cases e) (kp b o e)
  intro d
  induction d with
  | zero =>
    intro i s hi st kp ⟨L, es, ep, t, hS, z6, g⟩ fin
    obtain rfl : i = n := hi
    refine codeAny_builtin F.entry_set_update_loop ?_
    rw [Around.under_plainId F.plain_set_update_loop _]
    show wpAny _ A.in1 (pyNext (.ref I) >>= _) _ _ s
    refine wpAny_bind (W.done s _ _ st fun s' mv => ?_)
    exact wpAny_pure (fin s' L es ep t (mv.mono wider) (hS.up (fun o e => mv.heap S o offw e) fun p mp => isT_keep (hk p (List.mem_of_mem_take (g.sub p mp))) (still mv kp)) z6 g)
  | succ d ih =>
    intro i s hi st kp ⟨L, es, ep, t, hS, z6, g⟩ fin
    refine codeAny_builtin F.entry_set_update_loop ?_
    rw [Around.under_plainId F.plain_set_update_loop _]
    show wpAny _ A.in1 (pyNext (.ref I) >>= _) _ _ s
    refine wpAny_bind (W.item i s _ _ (by omega) st fun v s' pv st' mv => ?_)
    obtain ⟨p, hp, rfl⟩ := val i v pv
    have kp' := still mv kp
    have hS' : MT P w s'.heap S L es ep t := hS.up (fun o e => mv.heap S o offw e) fun q mq => isT_keep (hk q (List.mem_of_mem_take (g.sub q mq))) kp'
    have hx : IsT P w s'.heap p.2 p.1 := isT_keep (hk p (List.mem_of_getElem? hp)) kp'
    show wpAny _ A.in1 (holding [Value.ref p.1] (setAdd S (.ref p.1)) >>= _) _ _ s'
    unfold setAdd
    refine wpAny_bind (wpAny_holding (wpAny_holding (wpAny_bind (wpAny_pyHash_tuple hu hx ?_))))
    have gl := g.len
    have li := (List.getElem?_eq_some_iff.mp hp).1
    refine MT.add (s := { s' with toks := s'.toks + (p.2.length + 1) }) hS' z6 hx hu (by omega) fun b h' L' es' ep' t' but hS2 z6' which => ?_
    have g' : Got ks (i + 1) L' := by
      rcases which with ⟨m, rfl⟩ | ⟨_, pm⟩
      · exact g.same hp m
      · exact g.more hp pm
    have kp2 : ∀ b o, h0.get? b = some o → h'.get? b = some o := fun b o e => by
      rw [but.2 b fun z => by rw [z, nS] at e; cases e]
      exact kp' b o e
    refine wpAny_pure ⟨plainId_quiet F.plain_set_update_loop _, ih (i + 1) _ (by omega) (W.frame _ s' _ _ st' (Nat.le_add_right _ _) fun b mb o e => ?_) kp2 ⟨L', es', ep', t', hS2, z6', g'⟩ fun s2 L2 es2 ep2 t2 mv2 r2 z2 g2 => ?_⟩
    · show h'.get? b = some o
      rw [but.2 b fun z : b = S => out (z ▸ mb)]
      exact e
    · refine fin s2 L2 es2 ep2 t2 (Moved.trans W.gtrans ((mv.mono wider).then_heap (Nat.le_add_right _ _) fun b o mb e => ?_) mv2) r2 z2 g2
      show h'.get? b = some o
      rw [but.2 b fun z : b = S => mb (z ▸ List.mem_cons_self)]
      exact e
theorem set_of_tups {l : Addr} {its : Array Value} (ks : List (Addr × List Int)) {Q : Value → Shared → Prop} (calm : A.handled = none) (hl : s.heap.IsList l its) (hi : its.toList = ks.map fun p => Value.ref p.1) (hk : ∀ p ∈ ks, IsT P w s.heap p.2 p.1) (few : ks.length ≤ 4500) (hu : A.units + 3 < cLine)
    (k : ∀ (g : Heap) (tk : Nat) L es ep t, MT P w g s.heap.objs.size L es ep t → Size6 t.mask → Got ks ks.length L → (∀ b o, s.heap.get? b = some o → g.get? b = some o) → Q (.ref s.heap.objs.size) { s with heap := g, toks := tk }) :
    wpAny (model P w) A (call (.type "set") [.ref l]) Q E s := by
  have len : its.size = ks.length := by rw [← Array.length_toList, hi, List.length_map]
  obtain ⟨c0, tl, hmro⟩ := F.called_set.mro
  have hmade := F.called_set.made
  have hsub := F.called_set.sub
  refine wpAny_call (codeAny_of_tree ?_)
  show wpAny _ _ (callAny (.type "set") _) _ _ _
  refine wpAny_pure ⟨Code.quiet_builtin _ (by decide +kernel), codeAny_builtin F.entry_type_call ?_⟩
  rw [Around.under_plain (weight_type_call_type "set" [.ref l] []) rfl]
  have n1 := F.called_set.notType
  have n2 := F.called_set.canCreate
  have n3 := F.typeCall_set_1 (.ref l)
  repeat (any_goals (first | assumption | wp_step))
  refine codeAny_mono (code_set_led1 (.ref l) (E := E) (Q₁ := fun ob s1 => ob = .ref s.heap.objs.size ∧ s1 = { s with heap := s.heap.push (bareSet w) }) ⟨rfl, rfl⟩) fun r s1 hr => ?_
  rcases r with e | fl
  · exact hr
  cases fl with
  | ret ob =>
    obtain ⟨rfl, rfl⟩ := hr
    have at0 : (s.heap.push (bareSet w)).get? s.heap.objs.size = some (bareSet w) := Heap.get?_push_size _ rfl
    have ty0 : Shared.TypeIs { s with heap := s.heap.push (bareSet w) } (.ref s.heap.objs.size) "set" := ⟨_, at0, rfl⟩
    have i1 := F.called_set.init.lookup
    have i2 := F.called_set.init.bind (.ref s.heap.objs.size)
    repeat (any_goals (first | assumption | wp_step))
    refine codeAny_mono (codeAny_call_builtin (R := wants (fun v s2 => v = .none ∧ ∃ g tk L es ep t, s2 = { s with heap := g, toks := tk } ∧ MT P w g s.heap.objs.size L es ep t ∧ Size6 t.mask ∧ Got ks ks.length L ∧
        (∀ b o, s.heap.get? b = some o → g.get? b = some o)) E) F.called_set.init.plain F.entry_set_init (check_set_init_1 ty0 ?_)) fun r2 s2 hr2 => ?_
    · obtain ⟨⟨oc, od, ob, osl⟩, hol, hcl, nl, hdl⟩ := hl
      simp only at hcl hdl
      subst hcl hdl
      have at1 : (s.heap.push (bareSet w)).get? l = some { cls := .type "list", dict := od, data := .seq its nl, slots := osl } := Heap.get?_push_of_some _ hol
      have q1 := F.sub_list_set
      have q2 := F.sub_list_frozenset
      have q3 : (Value.type "list" == Value.type "dict") = false := by decide
      have isl : (s.heap.push (bareSet w)).IsList l its := ⟨_, at1, rfl, nl, rfl⟩
      unfold Builtin.«set.__init__» noKeywords Builtin.Frozenset.updateFrom
      generalize hPI : pyIter = PI
      wp_walk
      subst hPI
      refine wpAny_pyIter_list isl ?_
      refine wpAny_bind (wpAny_runValue ?_)
      have lS : l < s.heap.objs.size := Heap.lt_size hol
      have calm3 : A.in1.in1.in1.handled = none := by simp [calm]
      have neI : l ≠ (s.heap.push (bareSet w)).objs.size := by
        rw [Heap.size_push]
        exact Nat.ne_of_lt (Nat.lt_succ_of_lt lS)
      have noS : s.heap.objs.size ∉ [(s.heap.push (bareSet w)).objs.size, l] := by
        rw [Heap.size_push]
        simp only [List.mem_cons, List.mem_singleton, List.not_mem_nil, or_false, not_or]
        exact ⟨Nat.ne_of_lt (Nat.lt_succ_self _), Nat.ne_of_gt lS⟩
      have item : ∀ (i : Nat) (v : Value), its[i]? = some v → ∃ p, ks[i]? = some p ∧ v = .ref p.1 := fun i v hv => by
        rw [← Array.getElem?_toList, hi, List.getElem?_map] at hv
        obtain ⟨p, hp, rfl⟩ := Option.map_eq_some_iff.mp hv
        exact ⟨p, hp, rfl⟩
      have bare : ∀ b, s.heap.objs.size ≤ b → s.heap.get? b = none := fun b le => Option.eq_none_iff_forall_ne_some.mpr fun o e => by
        exact Nat.lt_irrefl _ (Nat.lt_of_lt_of_le (Heap.lt_size e) le)
      refine add_all ((Walks.list calm3 _ l neI its).toS) s.heap.objs.size noS ks len few item s.heap hk (bare _ (Nat.le_refl _)) (fun b mb => bare b (by
          rw [List.mem_singleton.mp mb, Heap.size_push]
          exact Nat.le_succ _)) hu its.size 0 _ (Nat.zero_add _) ⟨⟨_, Heap.get?_push_size _ rfl, rfl, rfl⟩, (isl.push _)⟩ (fun b o e => Heap.get?_push_of_some _ (Heap.get?_push_of_some _ e)) ?s0 ?fin
      case s0 => exact ⟨[], #[], 0, _, MT.empty (Heap.get?_push_of_some _ at0), .inl rfl, Got.zero ks⟩
      case fin =>
        intro s3 L es ep t mv hS3 z6 g3
        obtain ⟨g, ge, dr, t3, os3⟩ := s3
        cases (show ge = s.gens from mv.gens)
        cases (show dr = s.drawn from mv.drawn)
        cases (show os3 = s.os from mv.os)
        show wpAny _ _ _ _ _ _
        refine wpAny_pure ?_
        show wpAny _ _ (ret Value.none) _ _ _
        rw [len] at g3
        refine wpAny_pure ⟨rfl, g, t3, L, es, ep, t, rfl, hS3, z6, g3, fun b o e => ?_⟩
        have b0 : b < s.heap.objs.size := Heap.lt_size e
        have b2 : b ≠ (s.heap.push (bareSet w)).objs.size := by
          rw [Heap.size_push]
          exact Nat.ne_of_lt (Nat.lt_succ_of_lt b0)
        exact mv.heap b o (by simp only [List.mem_cons, List.mem_singleton, List.not_mem_nil, or_false, not_or]; exact ⟨Nat.ne_of_lt b0, b2⟩) (Heap.get?_push_of_some _ (Heap.get?_push_of_some _ e))
    · rcases r2 with e | fl2
      · exact hr2
      cases fl2 with
      | ret v =>
        obtain ⟨rfl, g, tk, L, es, ep, t, rfl, hS, z6, hg, hk'⟩ := hr2
        repeat (any_goals (first | assumption | wp_step))
        exact k _ _ _ _ _ _ hS z6 hg hk'
      | _ => exact hr2.elim
  | _ => exact hr.elim
end
/-- such a set, its tuples told apart from it -/
def SetM (P : Program) (w : World) (a : Addr) (L : List (Addr × List Int)) : HO := .ext fun h => ∃ es ep t, (∃ o, h.get? a = some o ∧ o.ExactSet ∧ o.data = .set es ep t) ∧ es.toList = rowsOf P w L ∧ Tab t (hashes P w L) ∧ (L.map (·.2)).Nodup ∧ t.plain = true ∧
  (w.params.followText "set-order" = true ∨ t.led = true) ∧ L.length * 5 < t.mask * 3
theorem setM_new {P : Program} {w : World} {H : Hp} {h : Heap} {a : Addr} {L : List (Addr × List Int)} {es : Array (Int × Value)} {ep : Nat} {t : SetTable} (R : MT P w h a L es ep t) : ObjOk P w H h a (SetM P w a L) := by
  obtain ⟨⟨o, g, r⟩, r1, r2, r3, _, r5, r6, r7⟩ := R
  refine ⟨⟨es, ep, t, ⟨o, g, r⟩, r1, r2, r3, r5, r6, r7⟩, ⟨o, g⟩, fun h1 h2 p k => ?_⟩
  obtain ⟨es', ep', t', ⟨o', g', r'⟩, q⟩ := p
  exact ⟨es', ep', t', ⟨o', k o' g', r'⟩, q⟩
def SetB (P : Program) (w : World) (H : Hp) (a : Addr) (ps : List Pr) : Prop :=
  ∃ L : List (Addr × List Int), H a = some (SetM P w a L) ∧ L.length ≤ 4000 ∧ (∀ q ∈ L, q.2.length = 2 ∧ H q.1 = some (.tup (q.2.map V.int))) ∧ ∀ x, x ∈ L.map (fun q => pr q.2) ↔ x ∈ ps
section
variable {X : Cx}
theorem cr_setB (hc : X.calm = true) (hu : X.A.units + 64 < cLine) : CallR X (.type "set") (fun xs H Q => ∃ l ps, xs = [V.ref l] ∧ Cells H l ps ∧ ps.length ≤ 4000 ∧
    ∀ a H', Same H H' → H a = none → SetB X.prog X.w H' a ps → Q (.ref a) H') := by
  intro pins s σ H xs us Q I r h
  obtain ⟨l, ps, rfl, ⟨ts, hl, ht, rfl⟩, few, q⟩ := h
  rw [List.length_map] at few
  rw [Vals.ref1 r]
  obtain ⟨its, rv, pl, hz⟩ := I.list (lst_of hl)
  have n : H s.heap.objs.size = none := I.hok.fresh (Nat.le_refl _)
  have each : ∀ t ∈ ts, H t.1 = some (.tup (([t.2.1, t.2.2] : List Int).map V.int)) := ht
  have er : its = ts.map fun t => Value.ref t.1 := by
    refine refs_of_vals (ks := ts.map fun t => (t.1, ([t.2.1, t.2.2] : List Int))) ?_ |>.trans ?_
    · rw [List.map_map]
      exact rv
    · rw [List.map_map]
      rfl
  refine set_of_tups (P := X.prog) (w := X.w) (ts.map fun t => (t.1, [t.2.1, t.2.2])) (I.ok.hd hc) pl.isList (by simp [er]) (fun p mp => ?_) (by rw [List.length_map]; omega) (by omega) fun g tk L es ep t R _ got k => ?_
  · obtain ⟨t, mt, rfl⟩ := List.mem_map.mp mp
    exact I.isT (tup_of (each t mt))
  · have sub : ∀ p ∈ L, ∃ t ∈ ts, p = (t.1, [t.2.1, t.2.2]) := fun p mp => by
      obtain ⟨t, mt, e⟩ := List.mem_map.mp (List.mem_of_mem_take (got.sub p mp))
      exact ⟨t, mt, e.symm⟩
    have gl := got.len
    rw [List.length_map] at gl
    refine ⟨.ref s.heap.objs.size, upd H s.heap.objs.size (SetM X.prog X.w s.heap.objs.size L), I.laid (t' := tk) k (Nat.le_refl _) (setM_new R), rfl, q _ _ (newS n) n ⟨L, upd_same, by omega, fun p mp => ?_, fun x => ⟨fun m => ?_, fun m => ?_⟩⟩⟩
    · obtain ⟨t, mt, rfl⟩ := sub p mp
      exact ⟨rfl, newS n _ _ (each t mt)⟩
    · obtain ⟨p, mp, rfl⟩ := List.mem_map.mp m
      obtain ⟨t, mt, rfl⟩ := sub p mp
      exact List.mem_map.mpr ⟨t, mt, rfl⟩
    · obtain ⟨t, mt, rfl⟩ := List.mem_map.mp m
      obtain ⟨p, mp, e⟩ := List.mem_map.mp (got.all (t.1, [t.2.1, t.2.2]) (by rw [List.take_length]; exact List.mem_map.mpr ⟨t, mt, rfl⟩))
      exact List.mem_map.mpr ⟨p, mp, by rw [e]; rfl⟩
end
end Vx
namespace Vx
open PySem PySem.Spec PyProof.Rows L2
section
variable {P : Program} {w : World} {A : Around} {E : Value → Shared → Prop} {s : Shared}
/-- the set's members, sorted -/
theorem sorted_pairsB {a : Addr} {L : List (Addr × List Int)} {es : Array (Int × Value)} {ep : Nat} {t : SetTable} {Q : Value → Shared → Prop} (R : MT P w s.heap a L es ep t) (few : L.length ≤ 4000) (hh : A.handled = none) (h2 : ∀ q ∈ L, q.2.length = 2)
    (hQ : ∀ s' p (ts : List (Addr × Pr)) (c : Nat), (∀ b o, s.heap.get? b = some o → s'.heap.get? b = some o) → s'.gens = s.gens → s'.os = s.os → s.heap.objs.size ≤ p →
      s'.heap.get? p = some (seqObj "list" (ts.map fun q => Value.ref q.1).toArray c) → (∀ q ∈ ts, ∃ r ∈ L, r.1 = q.1 ∧ pr r.2 = q.2) → (∀ x, x ∈ ts.map (·.2) ↔ x ∈ L.map fun q => pr q.2) → (ts.map (·.2)).Pairwise ltP → ts.length = L.length → Q (.ref p) s') :
    wpAny (model P w) A (call (.builtin "sorted") [.ref a]) Q E s := by
  obtain ⟨o, go, xo, dat⟩ := R.obj
  refine Calls.call_function_entry kind_sorted plain_sorted entry_sorted (args_sorted1 _) ?_
  unfold Builtin.«sorted»
  refine wpAny_bind (m := checkCount "sorted" 1 1 _) (wpAny_pure ?_)
  refine wpAny_bind (collect_set (A := A.in1) hh ⟨o, go, xo.1, dat⟩ R.fit (by rw [R.sz]; unfold scanBound; omega) R.tb.up R.ld fun s1 vs keep sz gg oo pm => ?_)
  have em : es.toList.map (·.2) = L.map fun q => Value.ref q.1 := by
    rw [R.rws]
    show (L.map fun q => (thash P w q.2, Value.ref q.1)).map (·.2) = _
    rw [List.map_map] <;> rfl
  rw [em] at pm
  have vl : vs.length = L.length := by rw [pm.length_eq, List.length_map]
  have lim : vs.length ≤ sizeLine := by
    rw [sizeLine_eq]
    omega
  refine wpAny_bind (wpAny_newList ?_ lim)
  have gl : (s1.heap.push (seqObj "list" vs.toArray 0)).get? s1.heap.objs.size = some (seqObj "list" vs.toArray 0) := Heap.get?_push_size _ rfl
  generalize hh1 : s1.heap.push (seqObj "list" vs.toArray 0) = h1 at gl
  have keep1 : ∀ b u, s1.heap.get? b = some u → h1.get? b = some u := fun b u e => by
    rw [← hh1]
    exact Heap.get?_push_of_some _ e
  have tin : ∀ q ∈ L, TS.TupInts h1 (.ref q.1) q.2 := fun q m => tupInts_of (P := P) (w := w) (isT_keep (R.tps q m) fun b u e => keep1 b u (keep b u e))
  have mem : ∀ v ∈ vs, ∃ q ∈ L, v = Value.ref q.1 := fun v m => by
    obtain ⟨q, m1, e⟩ := List.mem_map.mp (pm.mem_iff.mp m)
    exact ⟨q, m1, e.symm⟩
  have key : ∀ q ∈ L, pr (TS.intsOf h1 (.ref q.1)) = pr q.2 := fun q m => by rw [(tin q m).ints]
  have isP : ∀ v ∈ vs, Srt.IsPair h1 v (pr (TS.intsOf h1 v)).1 (pr (TS.intsOf h1 v)).2 := fun v m => by
    obtain ⟨q, m1, rfl⟩ := mem v m
    rw [key q m1]
    have i := tin q m1
    have l2 := len2 (h2 q m1)
    rw [l2] at i
    obtain ⟨b, items, eb, ⟨o1, go1, co1, n1, do1⟩, ia⟩ := i
    cases eb
    obtain ⟨xs⟩ := items
    cases ia with
    | cons _ t1 ia =>
      cases ia with
      | cons _ t2 ia =>
        cases ia
        exact ⟨_, o1, t1, t2, n1, rfl, go1, co1, do1⟩
  refine wpAny_bind (wpAny_holding (wpAny_call_entry (s := { s1 with heap := h1 }) slot_list_sort ⟨_, gl, rfl⟩ entry_list_sort (SrtO.list_sort_ord (s := { s1 with heap := h1 }) (SrtO.swo_lex fun v => pr (TS.intsOf h1 v)) gl lim (fun two => SrtO.pairs_sortableO (by omega) isP fun o1 e => ?_) fun out srt stb => ⟨_, rfl, ?_⟩) (args_list_sort _)))
  · have e' : some o1 = some (seqObj "list" vs.toArray 0) := e.symm.trans gl
    cases e'
    intro c
    exact absurd (Value.type.inj c) (by decide)
  · obtain ⟨c, gc⟩ := sortedHeap_at (vs := vs) (out := out.toArray) gl
    have omem : ∀ v ∈ out, ∃ q ∈ L, v = Value.ref q.1 := fun v m => mem v (stb.perm.mem_iff.mp m)
    refine wpAny_pure ⟨_, rfl, hQ _ s1.heap.objs.size (out.map fun v => (adr v, pr (TS.intsOf h1 v))) c (fun b u e => ?_) gg oo sz ?_ ?_ ?_ ?_ ?_⟩
    · have g1 := keep b u e
      have lt1 := Heap.lt_size g1
      show (sortedHeap h1 s1.heap.objs.size vs out.toArray).get? b = some u
      rw [sortedHeap_old (Nat.ne_of_lt lt1) (Heap.lt_size (keep1 b u g1))]
      exact keep1 b u g1
    · have eo : (out.map fun v => (adr v, pr (TS.intsOf h1 v))).map (fun q => Value.ref q.1) = out := by
        rw [List.map_map]
        refine (List.map_congr_left fun v m => ?_).trans (List.map_id _)
        obtain ⟨q, _, rfl⟩ := omem v m
        rfl
      rw [eo]
      exact gc
    · intro q m
      obtain ⟨v, m1, rfl⟩ := List.mem_map.mp m
      obtain ⟨r, mr, rfl⟩ := omem v m1
      exact ⟨r, mr, rfl, (key r mr).symm⟩
    · intro x
      rw [List.map_map]
      constructor
      · intro m
        obtain ⟨v, m1, rfl⟩ := List.mem_map.mp m
        obtain ⟨r, mr, rfl⟩ := omem v m1
        exact List.mem_map.mpr ⟨r, mr, (key r mr).symm⟩
      · intro m
        obtain ⟨r, mr, rfl⟩ := List.mem_map.mp m
        exact List.mem_map.mpr ⟨.ref r.1, stb.perm.mem_iff.mpr (pm.mem_iff.mpr (List.mem_map.mpr ⟨r, mr, rfl⟩)), key r mr⟩
    · rw [List.map_map]
      have nd : ((L.map fun q => Value.ref q.1).map fun v => pr (TS.intsOf h1 v)).Nodup := by
        rw [List.map_map]
        refine List.pairwise_map.mpr ((List.pairwise_map.mp R.ndp).imp_of_mem fun {q r} mq mr ne e => ne ?_)
        refine pr_inj (h2 q mq) (h2 r mr) ?_
        rw [← key q mq, ← key r mr]
        exact e
      have nd2 : (out.map fun v => pr (TS.intsOf h1 v)).Nodup := ((stb.perm.trans pm).map _).nodup_iff.mpr nd
      refine List.pairwise_map.mpr ((srt.and (List.pairwise_map.mp nd2)).imp fun {u v} h => ?_)
      have a1 := SrtO.lexB_no.mp h.1
      refine SrtO.lexB_iff.mpr ?_
      have a2 : ¬ ((pr (TS.intsOf h1 u)).1 = (pr (TS.intsOf h1 v)).1 ∧ (pr (TS.intsOf h1 u)).2 = (pr (TS.intsOf h1 v)).2) := fun e => h.2 (Prod.ext e.1 e.2)
      show (pr (TS.intsOf h1 u)).1 < (pr (TS.intsOf h1 v)).1 ∨ (pr (TS.intsOf h1 u)).1 = (pr (TS.intsOf h1 v)).1 ∧ (pr (TS.intsOf h1 u)).2 < (pr (TS.intsOf h1 v)).2
      omega
    · rw [List.length_map, stb.perm.length_eq, vl]
end
section
variable {X : Cx}
theorem cr_sortedB (hc : X.calm = true) : CallR X (.builtin "sorted") (fun xs H Q => ∃ a ps, xs = [V.ref a] ∧ SetB X.prog X.w H a ps ∧
    ∀ p H' qs, Same H H' → H p = none → Cells H' p qs → qs.Pairwise ltP → (∀ x, x ∈ qs ↔ x ∈ ps) → qs.length ≤ 4000 → Q (.ref p) H') := by
  intro pins s σ H vs us Q I r h
  obtain ⟨a, ps, rfl, ⟨L, ha, few, hL, mem⟩, q⟩ := h
  obtain ⟨es, ep, t, r1, r2, r3, r4, r5, r6, r7⟩ := (I.hok a _ ha).1
  have R : MT X.prog X.w s.heap a L es ep t := ⟨r1, r2, r3, r4, fun p hp => I.isT (tup_of (hL p hp).2), r5, r6, r7⟩
  rw [Vals.ref1 r]
  refine sorted_pairsB R few (I.ok.hd hc) (fun q m => (hL q m).1) fun s' p ts c k g o hp hg own all pw le => ?_
  have lim : (ts.map fun q => V.ref q.1).length ≤ sizeLine := by
    rw [List.length_map, sizeLine_eq]
    omega
  have n : H p = none := I.hok.fresh hp
  have vals : ∀ ts : List (Addr × Pr), Vals (ts.map fun q => V.ref q.1) (ts.map fun q => Value.ref q.1) := fun ts => by
    induction ts with
    | nil => exact .nil
    | cons t ts ih => exact .cons rfl ih
  have J : Inv X pins σ (upd H p (.lst (ts.map fun q => V.ref q.1))) { s with heap := s'.heap, gens := s'.gens, drawn := s'.drawn, toks := s'.toks } :=
    I.call (ch := []) (Un.laid k hp n) (I.hok.laid k hp ⟨lim, _, c, vals ts, hg⟩) (by rw [g]; exact I.bare) (fun _ z => nomatch z)
  have e : s' = { s with heap := s'.heap, gens := s'.gens, drawn := s'.drawn, toks := s'.toks } := by
    obtain ⟨_, _, _, _, _⟩ := s'
    obtain ⟨_, _, _, _, _⟩ := s
    cases o
    rfl
  rw [e]
  have sm : Same H (upd H p (.lst (ts.map fun q => V.ref q.1))) := newS n
  refine ⟨.ref p, _, J, rfl, q p _ (ts.map (·.2)) sm n ⟨ts, upd_same, fun t m => ?_, rfl⟩ pw (fun x => (all x).trans (mem x)) (by rw [List.length_map, le]; exact few)⟩
  obtain ⟨r, mr, e1, e2⟩ := own t m
  have z := sm _ _ (hL r mr).2
  rw [len2 (hL r mr).1, e1, e2] at z
  exact z
end
end Vx
namespace Vx
open PySem PySem.Spec PyProof.Rows L2
theorem op_notInP {X : Cx} (hu : X.A.units + 65 < cLine) : OpR X (compareOp .NotIn) (fun x y H Q => ∃ (t a : Addr) (p : Pr) (ps : List Pr), x = .ref t ∧ y = .ref a ∧ H t = some (.tup [.int p.1, .int p.2]) ∧ Cells H a ps ∧ Q (.bl (!decide (p ∈ ps))) H) := by
  intro pins s σ H x y v u Q I rx ry h
  obtain ⟨t, a, p, ps, rfl, rfl, ht, hc, q⟩ := h
  refine op_notInD hu pins s σ H _ _ v u Q I rx ry ⟨pd p, ps.map pd, .tup (tup_of ht) (.cons (.int _) (.cons (.int _) .nil)), dp_cells hc, shaped_pd p, shaped_cells ps, ?_⟩
  rw [any_pd]
  exact q
/-! ### lists of lists of pairs -/
def lp (ps : List Pr) : PyData := .list (ps.map pd)
def CellsL (H : Hp) (l : Addr) (pss : List (List Pr)) : Prop :=
  ∃ ts : List (Addr × List Pr), H l = some (.lst (ts.map fun t => V.ref t.1)) ∧ (∀ t ∈ ts, Cells H t.1 t.2) ∧ ts.map (·.2) = pss
theorem CellsL.up {H H' : Hp} {l : Addr} {pss : List (List Pr)} (e : Same H H') (h : CellsL H l pss) : CellsL H' l pss := by
  obtain ⟨ts, h1, h2, h3⟩ := h
  exact ⟨ts, e _ _ h1, fun t m => (h2 t m).up e, h3⟩
theorem CellsL.lst {H : Hp} {l : Addr} {pss : List (List Pr)} (h : CellsL H l pss) : ∃ xs, H l = some (.lst xs) ∧ xs.length = pss.length := by
  obtain ⟨ts, h1, h2, h3⟩ := h
  exact ⟨_, h1, by rw [← h3, List.length_map, List.length_map]⟩
theorem CellsL.at {H : Hp} {l : Addr} {pss : List (List Pr)} {i : Nat} {ps : List Pr} (h : CellsL H l pss) (e : pss[i]? = some ps) : ∃ xs a, H l = some (.lst xs) ∧ xs[i]? = some (.ref a) ∧ Cells H a ps := by
  obtain ⟨ts, h1, h2, rfl⟩ := h
  rw [List.getElem?_map] at e
  cases q : ts[i]? with
  | none => rw [q] at e; cases e
  | some t =>
    rw [q] at e
    refine ⟨_, t.1, h1, by rw [List.getElem?_map, q]; rfl, ?_⟩
    rw [← Option.some.inj e]
    exact h2 t (List.mem_of_getElem? q)
theorem CellsL.mut {H : Hp} {l d : Addr} {pss : List (List Pr)} {o : HO} (h : CellsL H l pss) (ne : l ≠ d) (nl : ∀ xs, H d ≠ some (.lst xs)) (nt : ∀ xs, H d ≠ some (.tup xs)) : CellsL (upd H d o) l pss := by
  obtain ⟨ts, h1, h2, h3⟩ := h
  refine ⟨ts, by rw [upd_ne ne]; exact h1, fun t m => (h2 t m).mut (fun e => ?_) nt, h3⟩
  obtain ⟨us, z, _⟩ := h2 t m
  rw [e] at z
  exact nl _ z
theorem eqv_lp (a b : List Pr) : PyData.eqv (lp a) (lp b) = decide (a = b) := eqv_cells a b
theorem eqvAll_lp : ∀ (l m : List (List Pr)), PyData.eqvAll (l.map lp) (m.map lp) = decide (l = m)
  | [], [] => by simp [PyData.eqvAll]
  | [], y :: m => by simp [PyData.eqvAll]
  | x :: l, [] => by simp [PyData.eqvAll]
  | x :: l, y :: m => by
    show (PyData.eqv (lp x) (lp y) && PyData.eqvAll (l.map lp) (m.map lp)) = _
    rw [eqvAll_lp l m, eqv_lp]
    by_cases e : x = y <;> by_cases e2 : l = m <;> simp [e, e2]
theorem eqv_lps (l m : List (List Pr)) : PyData.eqv (.list (l.map lp)) (.list (m.map lp)) = decide (l = m) := eqvAll_lp l m
theorem canAll_lp : ∀ l : List (List Pr), PyData.canLayAll0 (l.map lp) = true
  | [] => by simp [PyData.canLayAll0]
  | x :: l => by
    rw [List.map_cons]
    simp [PyData.canLayAll0, PyData.canLay0, lp, canAll_pd, canAll_lp l]
theorem depAll_lp : ∀ l : List (List Pr), PyData.depthAll (l.map lp) ≤ 2
  | [] => by simp [PyData.depthAll]
  | x :: l => by
    rw [List.map_cons]
    have := depAll_lp l
    have := depAll_pd x
    simp only [PyData.depthAll, PyData.depth, lp]
    omega
theorem shaped_lp (l : List Pr) : SeqAt.shaped (lp l) = true := shaped_cells l
theorem shaped_lps (l : List (List Pr)) : SeqAt.shaped (.list (l.map lp)) = true := by
  unfold SeqAt.shaped
  have := depAll_lp l
  simp only [PyData.canLay0, PyData.depth, canAll_lp]
  simp
  omega
theorem any_lp (p : List Pr) : ∀ ps : List (List Pr), (ps.map lp).any (fun z => PyData.eqv z (lp p)) = decide (p ∈ ps)
  | [] => by simp
  | q :: ps => by
    rw [List.map_cons, List.any_cons, any_lp p ps, eqv_lp]
    by_cases e : q = p
    · subst e
      simp
    · have e2 : ¬ p = q := fun z => e z.symm
      simp [e, e2]
theorem dp_cellsL {K : PySem.W.Frag} {H : Hp} {a : Addr} {pss : List (List Pr)} (h : CellsL H a pss) : Dp K H (.ref a) (.list (pss.map lp)) := by
  obtain ⟨ts, hl, ht, rfl⟩ := h
  refine .lst (lst_of hl) ?_
  have go : ∀ us : List (Addr × List Pr), (∀ t ∈ us, Cells H t.1 t.2) → DpAll K H (us.map fun t => V.ref t.1) ((us.map (·.2)).map lp) := fun us => by
    induction us with
    | nil => exact fun _ => .nil
    | cons t us ih => exact fun h => .cons (dp_cells (h t List.mem_cons_self)) (ih fun u m => h u (List.mem_cons_of_mem _ m))
  exact go ts ht
theorem op_inL {X : Cx} (hu : X.A.units + 65 < cLine) : OpR X (compareOp .In) (fun x y H Q => ∃ (t a : Addr) (p : List Pr) (ps : List (List Pr)), x = .ref t ∧ y = .ref a ∧ Cells H t p ∧ CellsL H a ps ∧ Q (.bl (decide (p ∈ ps))) H) := by
  intro pins s σ H x y v u Q I rx ry h
  obtain ⟨t, a, p, ps, rfl, rfl, ht, hc, q⟩ := h
  refine op_inD hu pins s σ H _ _ v u Q I rx ry ⟨lp p, ps.map lp, dp_cells ht, dp_cellsL hc, shaped_lp p, shaped_lps ps, ?_⟩
  rw [any_lp]
  exact q
theorem mt_indexL {X : Cx} (hu : X.A.units + 65 < cLine) : MtR X "list.index" (fun x xs H Q => ∃ (a t : Addr) (p : List Pr) (ps : List (List Pr)), x = .ref a ∧ xs = [.ref t] ∧ Cells H t p ∧ CellsL H a ps ∧
    ∃ j, ps[j]? = some p ∧ (∀ m p', m < j → ps[m]? = some p' → p' ≠ p) ∧ Q (.int (j : Nat)) H) := by
  intro pins s σ H x xs v us Q I rx rxs h
  obtain ⟨a, t, p, ps, rfl, rfl, ht, hc, j, hj, hno, q⟩ := h
  refine mt_indexD hu pins s σ H _ _ v us Q I rx rxs ⟨a, .ref t, lp p, ps.map lp, j, lp p, rfl, rfl, dp_cellsL hc, dp_cells ht, shaped_lps ps, shaped_lp p, by rw [List.getElem?_map, hj]; rfl, by rw [eqv_lp]; exact decide_eq_true rfl, fun m z' hm hz => ?_, q⟩
  rw [List.getElem?_map] at hz
  obtain ⟨p', hp, rfl⟩ := Option.map_eq_some_iff.mp hz
  rw [eqv_lp]
  exact decide_eq_false (hno m p' hm hp)
theorem CellsL.add {H : Hp} {l t : Addr} {pss : List (List Pr)} {ps : List Pr} {vs : List V} (h : CellsL H l pss) (hv : H l = some (.lst vs)) (hc : Cells H t ps) (ne : t ≠ l) : CellsL (upd H l (.lst (vs ++ [.ref t]))) l (pss ++ [ps]) := by
  obtain ⟨ts, h1, h2, rfl⟩ := h
  have e : vs = ts.map fun t => V.ref t.1 := by
    rw [h1] at hv
    injection hv with hv
    injection hv with hv
    exact hv.symm
  subst e
  have nt : ∀ xs, H l ≠ some (.tup xs) := fun xs z => by
    rw [h1] at z
    cases z
  have nl : ∀ u ∈ ts, u.1 ≠ l := fun u m e => by
    obtain ⟨us, g1, g2, _⟩ := h2 u m
    rw [e, h1] at g1
    injection g1 with g1
    injection g1 with g1
    have mu : V.ref u.1 ∈ ts.map fun t => V.ref t.1 := List.mem_map.mpr ⟨u, m, rfl⟩
    rw [g1] at mu
    obtain ⟨y, my, ey⟩ := List.mem_map.mp mu
    have ey : y.1 = u.1 := V.ref.inj ey
    have z := g2 y my
    rw [ey, e, h1] at z
    cases z
  refine ⟨ts ++ [(t, ps)], by rw [upd_same, List.map_append]; rfl, fun u m => ?_, by rw [List.map_append]; rfl⟩
  rcases List.mem_append.mp m with m | m
  · exact (h2 u m).mut (nl u m) nt
  · rw [List.mem_singleton.mp m]
    exact hc.mut ne nt
theorem CellsL.one {H : Hp} {l t : Addr} {ps : List Pr} (h : H l = some (.lst [.ref t])) (hc : Cells H t ps) : CellsL H l [ps] := ⟨[(t, ps)], h, fun u m => by rw [List.mem_singleton.mp m]; exact hc, rfl⟩
/-- a statement with a word of one's own behind it -/
def tMid (t : TS) : TS := fun D σ H => ∃ P : L2.St → Hp → Prop, t { D with nx := P } σ H ∧ ∀ σ' H', P σ' H' → D.nx σ' H'
theorem ps_mid {X : Cx} {st : Stmt} {t : TS} (h : PS X st t) : PS X st (tMid t) := by
  refine ⟨fun pins s σ H D I hw => ?_⟩
  obtain ⟨P, h1, h2⟩ := hw
  refine thn (h.run pins s σ H _ I h1) fun f s1 q => ?_
  cases f with
  | next =>
    obtain ⟨σ', H', I2, q⟩ := q
    exact ⟨σ', H', I2, h2 _ _ q⟩
  | brk => exact q
  | cont => exact q
  | ret v => exact q
/-- an expression with a word of one's own behind it -/
def tMidE (t : TE) : TE := fun σ H Q => ∃ P : V → Hp → Prop, t σ H P ∧ ∀ v H', P v H' → Q v H'
theorem pe_mid {X : Cx} {e : Expr} {t : TE} (h : PE X e t) : PE X e (tMidE t) := by
  refine ⟨fun pins s σ H Q I hw => ?_⟩
  obtain ⟨P, h1, h2⟩ := hw
  exact thn (h.run pins s σ H _ I h1) fun v s1 ⟨x, H1, I2, r, q⟩ => ⟨x, H1, I2, r, h2 _ _ q⟩
end Vx
namespace Vx
open PySem PySem.Spec PyProof.Rows L2
/-! ### comprehensions with any number of loops: one loop -/
def turnF (p : Pos) (tg : Expr) (ifs : List Expr) (em : (Unit → Sem PySem.Fin) → Sem PySem.Fin) (c : Code) (it : Value) (env : Env) : Sem PySem.Fin := do
  standAt p
  let r ← pyNext it
  match r with
  | none => pure (Fin.done Flow.next)
  | some v => do
    letOwnedTupleGo tg it v
    assign tg env v
    let s ← forIn ifs true fun c r => if r = true then do
        let ok ← PySem.isTrue c env (eval c env)
        pure (ForInStep.yield ok)
      else pure (ForInStep.yield r)
    if s = true then em fun _ => again c else again c
def finP (R : Result → Shared → Prop) (c : Code) (I : Nat → Shared → Prop) (n : Nat) : PySem.Fin → Shared → Prop := fun fin s' => match fin with
  | Fin.done f => R (Except.ok f) s'
  | Fin.again c' => c' = c ∧ ∃ m, m < n ∧ I m s'
theorem loopG {prog : Program} {w : World} {A : Around} {R : Result → Shared → Prop} {s : Shared} {e : Expr} {d : Nat} {it acc : Value} {env : Env} {p : Pos} {tg : Expr} {ifs : List Expr} {em : (Unit → Sem PySem.Fin) → Sem PySem.Fin}
    (hq : (Code.compLoop e d it acc env).quiet = true) (hun : A.under (Code.compLoop e d it acc env) = A) (hden : (model prog w).den (Code.compLoop e d it acc env) = Sem.onRaise (compTurn e d it acc env) fun x => do
      noteFrame x env
      theTreesLotGoes x)
    (ht : compTurn e d it acc env = turnF p tg ifs em (Code.compLoop e d it acc env) it env) (I : Nat → Shared → Prop)
    (turn : ∀ n s, I n s → wpAny (model prog w) A (pyNext it) (fun r s1 => match r with
        | none => R (Except.ok Flow.next) s1
        | some v => wpAny (model prog w) A (letOwnedTupleGo tg it v) (fun _ s2 => wpAny (model prog w) A (assign tg env v) (fun _ s3 =>
            wpAny (model prog w) A (forIn ifs true fun c r => if r = true then do
                let ok ← PySem.isTrue c env (eval c env)
                pure (ForInStep.yield ok)
              else pure (ForInStep.yield r)) (fun ok s4 => if ok = true then wpAny (model prog w) A (em fun _ => again (Code.compLoop e d it acc env)) (finP R (Code.compLoop e d it acc env) I n) (notedBy (model prog w) A env fun e s' => R (Except.error e) s') s4 else ∃ m, m < n ∧ I m s4)
              (notedBy (model prog w) A env fun e s' => R (Except.error e) s') s3)
            (notedBy (model prog w) A env fun e s' => R (Except.error e) s') s2)
          (notedBy (model prog w) A env fun e s' => R (Except.error e) s') s1)
      (notedBy (model prog w) A env fun e s' => R (Except.error e) s') s) (n : Nat) (h : I n s) : codeAny (model prog w) A (Code.compLoop e d it acc env) R s := by
  refine codeAny_loop hq I (fun n s hI => ?_) n h
  rw [hun, hden]
  refine wpAny_noted ?_
  rw [ht]
  unfold turnF
  refine wpAny_bind (wpAny_standAt (wpAny_bind (wpAny_mono (turn n s hI) (fun r s1 h1 => ?_) fun _ _ z => z)))
  cases r with
  | none => exact wpAny_pure h1
  | some v =>
    refine wpAny_bind (wpAny_mono h1 (fun _ s2 h2 => ?_) fun _ _ z => z)
    refine wpAny_bind (wpAny_mono h2 (fun _ s3 h3 => ?_) fun _ _ z => z)
    refine wpAny_bind (wpAny_mono h3 (fun ok s4 h4 => ?_) fun _ _ z => z)
    cases ok with
    | true =>
      rw [if_pos rfl] at h4 ⊢
      exact h4
    | false =>
      rw [if_neg (by decide)] at h4 ⊢
      exact wpAny_pure ⟨rfl, h4⟩
theorem startG {prog : Program} {w : World} {A : Around} {R : Result → Shared → Prop} {s : Shared} {e : Expr} {d : Nat} {it acc : Value} {env : Env} {g : Comprehension}
    (hq : ∀ it', (Code.compLoop e d it' acc env).quiet = true) (hun : A.under (Code.compStart e d it acc env) = A) (hden : (model prog w).den (Code.compStart e d it acc env) = Sem.onRaise (compStart e d it acc env) fun x => do
      noteFrame x env
      standAt theWindowsPlace)
    (hg : (clausesOf e)[d]? = some g) (ha : g.is_async = 0)
    (h0 : codeAny (model prog w) A (Code.compLoop e d it acc env) R s)
    (h : wpAny (model prog w) A (pyIter it) (fun it' s' => codeAny (model prog w) A (Code.compLoop e d it' acc env) R s') (notedBy (model prog w) A env fun x s' => R (Except.error x) s') s) :
    codeAny (model prog w) A (Code.compStart e d it acc env) R s := by
  refine codeAny_of_tree ?_
  rw [hun, hden]
  refine wpAny_notedAt ?_
  unfold compStart
  rw [hg]
  have z : ((some g).elim false fun x : Comprehension => x.is_async != 0) = false := by
    show (g.is_async != 0) = false
    rw [ha]
    rfl
  rw [z, if_neg (by decide)]
  refine wpAny_bind (wpAny_askSetting (wpAny_ite ?_))
  by_cases c : ({ program := (model prog w).prog, params := (model prog w).w.params } : Setting).params.followText "comprehension-iter-twice" = true
  · rw [if_pos c]
    exact wpAny_pure ⟨hq it, h0⟩
  · rw [if_neg c]
    refine wpAny_bind (wpAny_rule (wpAny_bind (wpAny_standAt (wpAny_bind (wpAny_mono h (fun it' s' h' => wpAny_pure ⟨hq it', h'⟩) fun _ _ z => z)))))
theorem lvl {Y : Cx} {pins : List (Addr × Obj)} {tg : Expr} {g : TG} {ifs : List Expr} {tt : TT} {J : It} {fp : List Addr} {it : Addr} {tn : Nat → Heap → Prop} (hc : Y.calm = true) (xe0 : Y.xe = fun _ _ => False) (T : Turn Y.prog Y.w Y.K tg J fp it tn) (pg : PG Y tg g) (pt : PTs Y ifs tt)
    {e : Expr} {d : Nat} {acc : Value} {p : Pos} {em : (Unit → Sem PySem.Fin) → Sem PySem.Fin} {R : Result → Shared → Prop}
    (hq : (Code.compLoop e d (.ref it) acc Y.env).quiet = true) (hun : Y.A.under (Code.compLoop e d (.ref it) acc Y.env) = Y.A) (hden : (model Y.prog Y.w).den (Code.compLoop e d (.ref it) acc Y.env) = Sem.onRaise (compTurn e d (.ref it) acc Y.env) fun x => do
      noteFrame x Y.env
      theTreesLotGoes x)
    (ht : compTurn e d (.ref it) acc Y.env = turnF p tg ifs em (Code.compLoop e d (.ref it) acc Y.env) (.ref it) Y.env)
    {EM : L2.St → Hp → (Hp → Prop) → Prop} {vs : List Nat} {σ0 : L2.St}
    (hem : ∀ (pins : List (Addr × Obj)) (s : Shared) (σ : L2.St) (H : Hp) (Nx : Hp → Prop) (Post : PySem.Fin → Shared → Prop) (E : Value → Shared → Prop), L2.Inv Y pins σ H s → EM σ H Nx → (∀ s' H', L2.Inv Y pins (wipe σ vs) H' s' → Nx H' → Post (Fin.again (Code.compLoop e d (.ref it) acc Y.env)) s') →
      wpAny (model Y.prog Y.w) Y.A (em fun _ => again (Code.compLoop e d (.ref it) acc Y.env)) Post E s)
    {W : Nat → Nat → Hp → Prop} {Qe : Hp → Prop}
    (turn : ∀ i m H, W i m H → (J.stop i H ∧ Qe H) ∨ (J.go i H ∧ ∃ Nx : Hp → Prop, (∀ H', Nx H' → ∃ m', m' < m ∧ W (i + 1) m' H') ∧ ∀ x H', J.yld i H x H' → g x (wipe σ0 vs) H' fun σ2 H2 => wipe σ2 vs = wipe σ0 vs ∧ tt σ2 H2 fun b H3 => if b = true then EM σ2 H3 Nx else Nx H3))
    (hR : ∀ s1 H, L2.Inv Y pins (wipe σ0 vs) H s1 → Qe H → R (Except.ok Flow.next) s1)
    {s : Shared} {H : Hp} {m : Nat} (I : L2.Inv Y pins (wipe σ0 vs) H s) (t0 : tn 0 s.heap) (hfp : ∀ b ∈ fp, FpOk Y pins H b) (w0 : W 0 m H) :
    codeAny (model Y.prog Y.w) Y.A (Code.compLoop e d (.ref it) acc Y.env) R s := by
  refine loopG hq hun hden ht (fun n s => ∃ i H, L2.Inv Y pins (wipe σ0 vs) H s ∧ tn i s.heap ∧ (∀ b ∈ fp, H b = none) ∧ W i n H) ?_ m ⟨0, H, I, t0, fun b hb => (hfp b hb).1, w0⟩
  rintro n s ⟨i, H1, I1, t1, nn, w1⟩
  have fpo : ∀ {H' : Hp}, (∀ b ∈ fp, H' b = none) → ∀ b ∈ fp, FpOk Y pins H' b := fun z b hb => ⟨z b hb, (hfp b hb).2⟩
  have no : ∀ {E : Value → Shared → Prop} (a : Value) (s : Shared), (fun _ _ => False : Value → Shared → Prop) a s → E a s := fun _ _ z => z.elim
  rcases turn i n H1 w1 with ⟨st, qe⟩ | ⟨go, Nx, nx, y⟩
  · refine wpAny_mono (T.done Y rfl rfl rfl hc i pins s _ H1 (fun _ _ => False) I1 (fpo nn) t1 st) (fun r s1 h1 => ?_) no
    obtain ⟨rfl, I2⟩ := h1
    exact hR s1 H1 I2 qe
  · refine wpAny_mono (T.item Y rfl rfl rfl hc i pins s _ H1 (fun _ _ => False) I1 (fpo nn) t1 go) (fun r s1 h1 => ?_) no
    obtain ⟨u, rfl, h1⟩ := h1
    refine wpAny_mono h1 (fun _ s2 h2 => ?_) no
    obtain ⟨x, H2, I2, rx, yl, t2, nn2⟩ := h2
    have P2 := I2.pinned (fpo nn2) (T.obj _ _ t2)
    have r3 := pg.run _ s2 _ H2 x u _ P2 rx (y x H2 yl)
    rw [xe0] at r3
    refine wpAny_mono r3 (fun _ s3 h3 => ?_) no
    obtain ⟨σ3, H3, I3, ew, h3⟩ := h3
    have r4 := pt.run _ s3 σ3 H3 _ I3 h3
    rw [xe0] at r4
    refine wpAny_mono r4 (fun ok s4 h4 => ?_) no
    obtain ⟨H4, I4, h4⟩ := h4
    have back : ∀ {s' : Shared} {H' : Hp}, L2.Inv Y (pins ++ pinsAt fp s2.heap) (wipe σ3 vs) H' s' → Nx H' → ∃ m, m < n ∧ ∃ i H, L2.Inv Y pins (wipe σ0 vs) H s' ∧ tn i s'.heap ∧ (∀ b ∈ fp, H b = none) ∧ W i m H := fun {s' H'} I' nx' => by
      obtain ⟨m', lm, w'⟩ := nx H' nx'
      have pin : ∀ b ∈ fp, ∀ o, s2.heap.get? b = some o → s'.heap.get? b = some o ∧ H' b = none := fun b hb o ho => by
        have := I'.pin (b, o) (List.mem_append.mpr (.inr (List.mem_append.mpr (.inr (mem_pinsAt hb ho)))))
        exact ⟨this.1, this.2.1⟩
      refine ⟨m', lm, i + 1, H', ?_, T.keep _ _ _ t2 fun b hb o ho => (pin b hb o ho).1, fun b hb => ?_, w'⟩
      · rw [← ew]
        exact I'.unpinned
      · obtain ⟨o, ho, _⟩ := T.obj _ _ t2 b hb
        exact (pin b hb o ho).2
    cases ok with
    | true =>
      rw [if_pos rfl] at h4 ⊢
      exact hem _ s4 σ3 H4 Nx _ _ I4 h4 fun s' H' I' n' => ⟨rfl, back I' n'⟩
    | false =>
      rw [if_neg (by decide)] at h4 ⊢
      exact back (I4.weak (wipe_length ..) fun _ _ z => (wipe_some z).1) h4
/-! ### what stands within a loop -/
def emL0 (elt : Expr) (acc : Value) (env : Env) : Sem Unit := do
  let x ← eval elt env
  let _ ← call (Value.builtin "list.append") [acc, x]
  pure ()
def emL (elt : Expr) (acc : Value) (env : Env) (k : Unit → Sem PySem.Fin) : Sem PySem.Fin := emL0 elt acc env >>= k
def emI (e : Expr) (d : Nat) (i1 : Expr) (acc : Value) (env : Env) (k : Unit → Sem PySem.Fin) : Sem PySem.Fin := do
  let x ← eval i1 env
  standAt i1.pos
  let x ← foldedSetIterable i1 env x
  let it ← holding [x] (pyIter x)
  let _ ← runOwn (Code.compStart e d it acc env) env
  k ()
abbrev EMT := L2.St → Hp → (Hp → Prop) → Prop
def tEm (te : TE) (D : Addr) : EMT := fun σ H Nx => te σ H fun y H4 => ∃ acc, H4 D = some (.lst acc) ∧ acc.length < sizeLine ∧ Nx (upd H4 D (.lst (acc ++ [y])))
def tTurns (J : It) (g : TG) (tt : TT) (vs : List Nat) (EM : EMT) (σ : L2.St) (Qe : Hp → Prop) (W : Nat → Nat → Hp → Prop) : Prop :=
  ∀ i m H, W i m H → (J.stop i H ∧ Qe H) ∨ (J.go i H ∧ ∃ Nx : Hp → Prop, (∀ H', Nx H' → ∃ m', m' < m ∧ W (i + 1) m' H') ∧ ∀ x H', J.yld i H x H' → g x (wipe σ vs) H' fun σ2 H2 => wipe σ2 vs = wipe σ vs ∧ tt σ2 H2 fun b H3 => if b = true then EM σ2 H3 Nx else Nx H3)
def tIn (wi : TI) (g : TG) (tt : TT) (vs : List Nat) (EM : EMT) : EMT := fun σ H Nx => wi σ H fun J H4 => ∃ W, (∃ m, W 0 m H4) ∧ tTurns J g tt vs EM σ Nx W
/-- an inner part runs -/
def Runs (Y : Cx) (vs : List Nat) (EM : EMT) (em : (Unit → Sem PySem.Fin) → Sem PySem.Fin) : Prop :=
  ∀ (pins : List (Addr × Obj)) (s : Shared) (σ : L2.St) (H : Hp) (Nx : Hp → Prop) (c : Code) (Post : PySem.Fin → Shared → Prop) (E : Value → Shared → Prop), L2.Inv Y pins σ H s → EM σ H Nx → (∀ s' H', L2.Inv Y pins (wipe σ vs) H' s' → Nx H' → Post (Fin.again c) s') →
    wpAny (model Y.prog Y.w) Y.A (em fun _ => again c) Post E s
theorem wipe_weak {Y : Cx} {pins : List (Addr × Obj)} {σ : L2.St} {H : Hp} {s : Shared} {vs vs1 : List Nat} (h : L2.Inv Y pins (wipe σ vs1) H s) (sub : ∀ i ∈ vs1, i ∈ vs) : L2.Inv Y pins (wipe σ vs) H s :=
  h.weak (by rw [wipe_length, wipe_length]) fun i v z => by
    obtain ⟨a, b⟩ := wipe_some z
    rw [wipe_out fun m => b (sub i m)]
    exact a
theorem runs_app {Y : Cx} (xe0 : Y.xe = fun _ _ => False) {elt : Expr} {te : TE} {D : Addr} (vs : List Nat) (pe : PE Y elt te) : Runs Y vs (tEm te D) (emL elt (.ref D) Y.env) := by
  intro pins s σ H Nx c Post E I h k
  unfold emL emL0
  have r := pe.run pins s σ H _ I h
  rw [xe0] at r
  refine wpAny_bind (wpAny_bind (wpAny_mono r (fun v s1 h1 => ?_) fun _ _ z => z.elim))
  obtain ⟨y, H1, I1, ry, acc, hD, few, nx⟩ := h1
  refine wpAny_bind (app_ok I1 hD few ry fun s2 I2 => ?_)
  refine wpAny_pure (wpAny_pure (k s2 _ (I2.weak (wipe_length ..) fun _ _ z => (wipe_some z).1) nx))
theorem runs_in {Y : Cx} (hc : Y.calm = true) (xe0 : Y.xe = fun _ _ => False) {e : Expr} {d : Nat} {acc : Value} {tg i1 : Expr} {ifs : List Expr} {wi : TI} {g : TG} {tt : TT} {vs vs1 : List Nat} {EM : EMT} {p : Pos} {em : (Unit → Sem PySem.Fin) → Sem PySem.Fin} {gc : Comprehension}
    (sub : ∀ i ∈ vs1, i ∈ vs) (pi : PI Y tg i1 wi) (pg : PG Y tg g) (pt : PTs Y ifs tt) (hem : Runs Y vs1 EM em) (hs : ∀ x, foldedSetIterable i1 Y.env x = pure x)
    (hq : ∀ it, (Code.compLoop e d it acc Y.env).quiet = true) (hun : ∀ it, Y.A.under (Code.compLoop e d it acc Y.env) = Y.A) (hden : ∀ it, (model Y.prog Y.w).den (Code.compLoop e d it acc Y.env) = Sem.onRaise (compTurn e d it acc Y.env) fun x => do
      noteFrame x Y.env
      theTreesLotGoes x)
    (hunS : ∀ it, Y.A.under (Code.compStart e d it acc Y.env) = Y.A) (hdenS : ∀ it, (model Y.prog Y.w).den (Code.compStart e d it acc Y.env) = Sem.onRaise (compStart e d it acc Y.env) fun x => do
      noteFrame x Y.env
      standAt theWindowsPlace)
    (hg : (clausesOf e)[d]? = some gc) (ha : gc.is_async = 0)
    (ht : ∀ it, compTurn e d it acc Y.env = turnF p tg ifs em (Code.compLoop e d it acc Y.env) it Y.env) : Runs Y vs (tIn wi g tt vs1 EM) (emI e d i1 acc Y.env) := by
  intro pins s σ H Nx c Post E I h k
  unfold emI
  have r := pi.run pins s σ H _ I h
  rw [xe0] at r
  refine wpAny_bind (wpAny_mono r (fun v s1 h1 => ?_) fun _ _ z => z.elim)
  refine wpAny_bind (wpAny_standAt ?_)
  rw [hs]
  refine wpAny_bind (wpAny_pure (wpAny_bind (wpAny_holding (wpAny_mono h1 (fun itv s2 h2 => ?_) fun _ _ z => z.elim))))
  obtain ⟨it, fp, tn, J, H2, rfl, I2, T, t0, hfp, W, ⟨m0, w0⟩, turns⟩ := h2
  refine wpAny_bind (wpAny_runOwn ?_)
  have loop := lvl (R := fun r s' => match r with | Except.ok f => wpAny (model Y.prog Y.w) Y.A (again c) Post E s' | Except.error e => False) hc xe0 T pg pt (hq _) (hun _) (hden _) (ht _) (EM := EM) (vs := vs1) (σ0 := σ) (fun pins s σ H Nx Post E I h k => hem pins s σ H Nx _ Post E I h k) turns
    (fun s1 H1 I1 q1 => wpAny_pure (k s1 H1 (wipe_weak I1 sub) q1)) (I2.weak (wipe_length ..) fun _ _ z => (wipe_some z).1) t0 hfp w0
  show codeAny _ Y.A _ _ _
  refine codeAny_mono (startG hq (hunS _) (hdenS _) hg ha loop (T.self Y.A 0 s2 _ _ t0 loop)) fun r s3 h3 => ?_
  cases r with
  | ok f => exact h3
  | error e => exact h3.elim
def tLcG (wi : TI) (g : TG) (tt : TT) (EM : Addr → EMT) (vs : List Nat) : TE := fun σ H Q => wi σ H fun J H1 => ∀ D : Addr, H1 D = none → ∃ W, (∃ m, W 0 m (upd H1 D (.lst []))) ∧ tTurns J g tt vs (EM D) σ (fun H => Q (.ref D) H) W
theorem pe_lcG {X : Cx} {elt tg iter : Expr} {ifs : List Expr} {rest : List Comprehension} {scope : Scope} {own : List (Str × Nat)} {pos p : Pos} {wi : TI} {g : TG} {tt : TT} {EM : Addr → EMT} {em : Value → Env → (Unit → Sem PySem.Fin) → Sem PySem.Fin}
    (hc : X.calm = true) (hN : X.N.Nodup) (hi : PI X tg iter wi) (ok : BlkOk X.N X.env.scope scope own)
    (hg : ∀ (s : Shared) (H : Hp) (C : Addr) (cl : List (Str × Addr)) (fp : List Addr), PG (X.blk s H scope (compEnvC scope cl C X.env) fp) tg g)
    (ht : ∀ (s : Shared) (H : Hp) (C : Addr) (cl : List (Str × Addr)) (fp : List Addr), PTs (X.blk s H scope (compEnvC scope cl C X.env) fp) ifs tt)
    (hem : ∀ (s : Shared) (H : Hp) (C : Addr) (cl : List (Str × Addr)) (fp : List Addr) (D : Addr), Runs (X.blk s H scope (compEnvC scope cl C X.env) fp) (own.map (·.2)) (EM D) (em (.ref D) (compEnvC scope cl C X.env)))
    (turn : ∀ it acc env, compTurn (.ListComp elt (⟨tg, iter, ifs, 0⟩ :: rest) scope pos) 0 it acc env = turnF p tg ifs (em acc env) (Code.compLoop (.ListComp elt (⟨tg, iter, ifs, 0⟩ :: rest) scope pos) 0 it acc env) it env)
    (hs : ∀ x, foldedSetIterable iter X.env x = pure x) : PE X (.ListComp elt (⟨tg, iter, ifs, 0⟩ :: rest) scope pos) (tLcG wi g tt EM (own.map (·.2))) := by
  refine ⟨fun pins s σ H Q I h => ?_⟩
  rw [eval_ListComp]
  have hfree : ∀ y ∈ scope.names, y.2 = NameKind.free → ∃ c, List.lookup y.1 X.env.cells = some c := fun y hy e => (ok.free y hy e).elim (fun k => I.ok.has y.1 (.inl k)) fun k => I.ok.has y.1 (.inr k)
  refine wpAny_comprehension_free rfl hs (closure_ok hfree) ok.kind (fun y hy e => by rw [ok.uniq y hy, e]) ?_
  refine wpAny_mono (hi.run pins s σ H _ I h) (fun xv s1 hx => ?_) fun _ _ z => z
  refine wpAny_mono hx (fun itv s2 h2 => ?_) fun _ _ z => z
  obtain ⟨it, fp, tn, J, H2, rfl, I2, T, t2, f2, q⟩ := h2
  refine wpAny_newObj_type (newEnv_comp ?_)
  have hDn : H2 s2.heap.objs.size = none := I2.hok.fresh (Nat.le_refl _)
  obtain ⟨W, ⟨m0, w0⟩, turns⟩ := q _ hDn
  have I3 : L2.Inv X pins σ (upd H2 s2.heap.objs.size (.lst [])) { s2 with heap := s2.heap.push { cls := .type "list", data := .seq #[] } } :=
    I2.laid (fun b o e => Heap.get?_push_of_some _ e) (Nat.le_refl _) ⟨Nat.zero_le _, [], 0, .nil, Heap.get?_push_size _ rfl⟩
  generalize es3 : ({ s2 with heap := s2.heap.push { cls := .type "list", data := .seq #[] } } : Shared) = s3 at I3 ⊢
  have h3 : s3.heap = s2.heap.push { cls := .type "list", data := .seq #[] } := by rw [← es3]
  have f3 : ∀ b ∈ fp, FpOk X pins (upd H2 s2.heap.objs.size (.lst [])) b ∧ b < s3.heap.objs.size := fun b hb => by
    obtain ⟨o, ho, _⟩ := T.obj 0 _ t2 b hb
    have lt := Heap.lt_size ho
    refine ⟨⟨?_, (f2 b hb).2⟩, ?_⟩
    · rw [upd_ne (Nat.ne_of_lt lt)]
      exact (f2 b hb).1
    · rw [h3, Heap.size_push]
      exact Nat.lt_succ_of_lt lt
  have st3 : tn 0 s3.heap := T.keep 0 _ _ t2 fun b _ o e => by
    rw [h3]
    exact Heap.get?_push_of_some _ e
  have I4 := block_start I3 ok hN f3
  have st4 := T.keep 0 _ (pushCells (s3.heap.push { cls := .type "dict", data := .dict #[] }) scope.names) st3 fun b _ o e => pushCells_keeps scope.names _ b o (Heap.get?_push_of_some _ e)
  clear es3
  generalize s2.heap.objs.size = D at *
  show codeAny (model X.prog X.w) X.A (Code.compStart _ 0 (.ref it) (.ref D) (compEnvC scope (cellsFrom (s3.heap.objs.size + 1) scope.names (cloFrom X.env.cells scope.names [])) s3.heap.objs.size X.env)) _ _
  have loop := lvl (Y := X.blk s3 (upd H2 D (.lst [])) scope (compEnvC scope (cellsFrom (s3.heap.objs.size + 1) scope.names (cloFrom X.env.cells scope.names [])) s3.heap.objs.size X.env) fp) (R := compPost (model X.prog X.w) X.A X.xe none (EP X pins σ Q) (.ref D) s3.heap.objs.size) (e := .ListComp elt (⟨tg, iter, ifs, 0⟩ :: rest) scope pos) (d := 0) (acc := .ref D) hc rfl T (hg _ _ _ _ _) (ht _ _ _ _ _) rfl rfl rfl (turn _ _ _) (EM := EM D) (vs := List.map (fun x : Str × Nat => x.2) own) (σ0 := σ) (W := W) (Qe := fun H => Q (.ref D) H)
    (fun pins s σ H Nx Post E I h k => hem _ _ _ _ _ D pins s σ H Nx _ Post E I h k) turns (fun s6 H5 I6 q6 => ?_) I4 st4 (fun b hb => ⟨(f3 b hb).1.1, (I4.ok.exf b hb).1, I4.ok.exfs b hb, .inl hb, (I4.ok.exf b hb).2, fun p hp => by cases hp⟩) w0
  · exact codeAny_compStart_list loop (T.self X.A 0 _ _ _ st4 loop)
  · have I7 := Inv.call' I3 I6.os I6.base I6.hok I6.bare fun b hb => ⟨(f3 b hb).1.2.2.2.1, (f3 b hb).1.2.1, (f3 b hb).1.2.2.2.2.1, (f3 b hb).1.2.2.2.2.2⟩
    obtain ⟨m, hn, _⟩ := I6.loc
    obtain ⟨a0, a1, a2, a3, a4, a5⟩ := Inv.fpOk I3 (Nat.le_refl _) I6.free
    exact ⟨m, hn, fun h' sb => ⟨.ref D, H5, Inv.turned I7 (fun b o hb e => (sb.2 b hb).trans e) a0 a1 a3 a4 a5, rfl, q6⟩⟩
/-- [e for a in xs for b in ys for c in zs] -/
theorem pe_lc3 {X : Cx} {elt tg iter tg1 iter1 tg2 iter2 : Expr} {ifs ifs1 ifs2 : List Expr} {scope : Scope} {own : List (Str × Nat)} {vs1 vs2 : List Nat} {pos : Pos} {wi wi1 wi2 : TI} {g g1 g2 : TG} {tt tt1 tt2 : TT} {te : TE}
    (hc : X.calm = true) (hN : X.N.Nodup) (hi : PI X tg iter wi) (ok : BlkOk X.N X.env.scope scope own) (hv1 : ∀ i ∈ vs1, i ∈ List.map (fun x : Str × Nat => x.2) own) (hv2 : ∀ i ∈ vs2, i ∈ vs1)
    (hg : ∀ (s : Shared) (H : Hp) (C : Addr) (cl : List (Str × Addr)) (fp : List Addr), PG (X.blk s H scope (compEnvC scope cl C X.env) fp) tg g)
    (ht : ∀ (s : Shared) (H : Hp) (C : Addr) (cl : List (Str × Addr)) (fp : List Addr), PTs (X.blk s H scope (compEnvC scope cl C X.env) fp) ifs tt)
    (hi1 : ∀ (s : Shared) (H : Hp) (C : Addr) (cl : List (Str × Addr)) (fp : List Addr), PI (X.blk s H scope (compEnvC scope cl C X.env) fp) tg1 iter1 wi1)
    (hg1 : ∀ (s : Shared) (H : Hp) (C : Addr) (cl : List (Str × Addr)) (fp : List Addr), PG (X.blk s H scope (compEnvC scope cl C X.env) fp) tg1 g1)
    (ht1 : ∀ (s : Shared) (H : Hp) (C : Addr) (cl : List (Str × Addr)) (fp : List Addr), PTs (X.blk s H scope (compEnvC scope cl C X.env) fp) ifs1 tt1)
    (hi2 : ∀ (s : Shared) (H : Hp) (C : Addr) (cl : List (Str × Addr)) (fp : List Addr), PI (X.blk s H scope (compEnvC scope cl C X.env) fp) tg2 iter2 wi2)
    (hg2 : ∀ (s : Shared) (H : Hp) (C : Addr) (cl : List (Str × Addr)) (fp : List Addr), PG (X.blk s H scope (compEnvC scope cl C X.env) fp) tg2 g2)
    (ht2 : ∀ (s : Shared) (H : Hp) (C : Addr) (cl : List (Str × Addr)) (fp : List Addr), PTs (X.blk s H scope (compEnvC scope cl C X.env) fp) ifs2 tt2)
    (he : ∀ (s : Shared) (H : Hp) (C : Addr) (cl : List (Str × Addr)) (fp : List Addr), PE (X.blk s H scope (compEnvC scope cl C X.env) fp) elt te)
    (hs : ∀ x, foldedSetIterable iter X.env x = pure x := by intro _; rfl) (hs1 : ∀ env x, foldedSetIterable iter1 env x = pure x := by intro _ _; rfl) (hs2 : ∀ env x, foldedSetIterable iter2 env x = pure x := by intro _ _; rfl) :
    PE X (.ListComp elt [⟨tg, iter, ifs, 0⟩, ⟨tg1, iter1, ifs1, 0⟩, ⟨tg2, iter2, ifs2, 0⟩] scope pos) (tLcG wi g tt (fun D => tIn wi1 g1 tt1 vs1 (tIn wi2 g2 tt2 vs2 (tEm te D))) (own.map (·.2))) := by
  refine pe_lcG (em := fun acc env => emI (.ListComp elt [⟨tg, iter, ifs, 0⟩, ⟨tg1, iter1, ifs1, 0⟩, ⟨tg2, iter2, ifs2, 0⟩] scope pos) 1 iter1 acc env) hc hN hi ok hg ht (fun s H C cl fp D => ?_) (fun _ _ _ => rfl) hs
  refine runs_in (Y := X.blk s H scope (compEnvC scope cl C X.env) fp) (gc := ⟨tg1, iter1, ifs1, 0⟩) hc rfl hv1 (hi1 s H C cl fp) (hg1 s H C cl fp) (ht1 s H C cl fp) (em := fun k => emI (.ListComp elt [⟨tg, iter, ifs, 0⟩, ⟨tg1, iter1, ifs1, 0⟩, ⟨tg2, iter2, ifs2, 0⟩] scope pos) 2 iter2 (.ref D) (compEnvC scope cl C X.env) k) ?_ (hs1 _) (fun _ => rfl) (fun _ => rfl) (fun _ => rfl) (fun _ => rfl) (fun _ => rfl) rfl rfl (fun _ => rfl)
  refine runs_in (Y := X.blk s H scope (compEnvC scope cl C X.env) fp) (gc := ⟨tg2, iter2, ifs2, 0⟩) hc rfl hv2 (hi2 s H C cl fp) (hg2 s H C cl fp) (ht2 s H C cl fp) (em := fun k => emL elt (.ref D) (compEnvC scope cl C X.env) k) ?_ (hs2 _) (fun _ => rfl) (fun _ => rfl) (fun _ => rfl) (fun _ => rfl) (fun _ => rfl) rfl rfl (fun _ => rfl)
  exact runs_app rfl vs2 (he s H C cl fp)
/-- [e for a in xs for b in ys] -/
theorem pe_lcD {X : Cx} {elt tg iter tg1 iter1 : Expr} {ifs ifs1 : List Expr} {scope : Scope} {own : List (Str × Nat)} {vs1 : List Nat} {pos : Pos} {wi wi1 : TI} {g g1 : TG} {tt tt1 : TT} {te : TE}
    (hc : X.calm = true) (hN : X.N.Nodup) (hi : PI X tg iter wi) (ok : BlkOk X.N X.env.scope scope own) (hv1 : ∀ i ∈ vs1, i ∈ List.map (fun x : Str × Nat => x.2) own)
    (hg : ∀ (s : Shared) (H : Hp) (C : Addr) (cl : List (Str × Addr)) (fp : List Addr), PG (X.blk s H scope (compEnvC scope cl C X.env) fp) tg g)
    (ht : ∀ (s : Shared) (H : Hp) (C : Addr) (cl : List (Str × Addr)) (fp : List Addr), PTs (X.blk s H scope (compEnvC scope cl C X.env) fp) ifs tt)
    (hi1 : ∀ (s : Shared) (H : Hp) (C : Addr) (cl : List (Str × Addr)) (fp : List Addr), PI (X.blk s H scope (compEnvC scope cl C X.env) fp) tg1 iter1 wi1)
    (hg1 : ∀ (s : Shared) (H : Hp) (C : Addr) (cl : List (Str × Addr)) (fp : List Addr), PG (X.blk s H scope (compEnvC scope cl C X.env) fp) tg1 g1)
    (ht1 : ∀ (s : Shared) (H : Hp) (C : Addr) (cl : List (Str × Addr)) (fp : List Addr), PTs (X.blk s H scope (compEnvC scope cl C X.env) fp) ifs1 tt1)
    (he : ∀ (s : Shared) (H : Hp) (C : Addr) (cl : List (Str × Addr)) (fp : List Addr), PE (X.blk s H scope (compEnvC scope cl C X.env) fp) elt te)
    (hs : ∀ x, foldedSetIterable iter X.env x = pure x := by intro _; rfl) (hs1 : ∀ env x, foldedSetIterable iter1 env x = pure x := by intro _ _; rfl) :
    PE X (.ListComp elt [⟨tg, iter, ifs, 0⟩, ⟨tg1, iter1, ifs1, 0⟩] scope pos) (tLcG wi g tt (fun D => tIn wi1 g1 tt1 vs1 (tEm te D)) (own.map (·.2))) := by
  refine pe_lcG (em := fun acc env => emI (.ListComp elt [⟨tg, iter, ifs, 0⟩, ⟨tg1, iter1, ifs1, 0⟩] scope pos) 1 iter1 acc env) hc hN hi ok hg ht (fun s H C cl fp D => ?_) (fun _ _ _ => rfl) hs
  refine runs_in (Y := X.blk s H scope (compEnvC scope cl C X.env) fp) (gc := ⟨tg1, iter1, ifs1, 0⟩) hc rfl hv1 (hi1 s H C cl fp) (hg1 s H C cl fp) (ht1 s H C cl fp) (em := fun k => emL elt (.ref D) (compEnvC scope cl C X.env) k) ?_ (hs1 _) (fun _ => rfl) (fun _ => rfl) (fun _ => rfl) (fun _ => rfl) (fun _ => rfl) rfl rfl (fun _ => rfl)
  exact runs_app rfl vs1 (he s H C cl fp)
theorem pi_tupK {X : Cx} {tg l : Expr} {tl : TE} {K : PySem.W.Frag} (hk : X.K = K) (h : PE X l tl) : PI X tg l (iTup K tl) := by
  subst hk
  exact pi_tup h
/-! ### readings -/
theorem turns_range {lo : Int} {n : Nat} {g : TG} {tt : TT} {vs : List Nat} {EM : EMT} {σ : L2.St} {H0 : Hp} {Qe : Hp → Prop} (Z : Nat → Hp → Prop) (z0 : Z 0 H0)
    (step : ∀ (i : Nat) (H : Hp), i < n → Z i H → g (.int (lo + (i : Int))) (wipe σ vs) H fun σ2 H2 => wipe σ2 vs = wipe σ vs ∧ tt σ2 H2 fun b H3 => if b = true then EM σ2 H3 (Z (i + 1)) else Z (i + 1) H3)
    (done : ∀ H, Z n H → Qe H) : ∃ W, (∃ m, W 0 m H0) ∧ tTurns (Itr lo n) g tt vs EM σ Qe W := by
  refine ⟨fun i m H => i ≤ n ∧ m = n - i ∧ Z i H, ⟨n, Nat.zero_le _, rfl, z0⟩, ?_⟩
  rintro i m H ⟨le, rfl, z⟩
  by_cases e : i = n
  · exact .inl ⟨Nat.le_of_eq e.symm, done H (e ▸ z)⟩
  · have lt : i < n := by omega
    refine .inr ⟨lt, Z (i + 1), fun H' z' => ⟨n - (i + 1), by omega, by omega, rfl, z'⟩, ?_⟩
    rintro x H' ⟨rfl, rfl⟩
    exact step i H' lt z
theorem turns_list {K : PySem.W.Frag} {a : Addr} {xs : List V} {g : TG} {tt : TT} {vs : List Nat} {EM : EMT} {σ : L2.St} {H0 : Hp} {Qe : Hp → Prop} (Z : Nat → Hp → Prop) (z0 : Z 0 H0) (keep : ∀ (i : Nat) (H : Hp), i ≤ xs.length → Z i H → SqL K H a xs)
    (step : ∀ (i : Nat) (x : V) (H : Hp), xs[i]? = some x → Z i H → g x (wipe σ vs) H fun σ2 H2 => wipe σ2 vs = wipe σ vs ∧ tt σ2 H2 fun b H3 => if b = true then EM σ2 H3 (Z (i + 1)) else Z (i + 1) H3)
    (done : ∀ H, Z xs.length H → Qe H) : ∃ W, (∃ m, W 0 m H0) ∧ tTurns (Itl K a) g tt vs EM σ Qe W := by
  refine ⟨fun i m H => i ≤ xs.length ∧ m = xs.length - i ∧ Z i H, ⟨_, Nat.zero_le _, rfl, z0⟩, ?_⟩
  rintro i m H ⟨le, rfl, z⟩
  by_cases e : i = xs.length
  · exact .inl ⟨⟨xs, keep i H le z, Nat.le_of_eq e.symm⟩, done H (e ▸ z)⟩
  · have lt : i < xs.length := by omega
    refine .inr ⟨⟨xs, xs[i], keep i H le z, List.getElem?_eq_getElem lt⟩, Z (i + 1), fun H' z' => ⟨xs.length - (i + 1), by omega, by omega, rfl, z'⟩, ?_⟩
    rintro x H' ⟨rfl, hx⟩
    exact step i x H' (hx xs (keep i H' le z)) z
theorem turns_tup {K : PySem.W.Frag} {a : Addr} {xs : List V} {g : TG} {tt : TT} {vs : List Nat} {EM : EMT} {σ : L2.St} {H0 : Hp} {Qe : Hp → Prop} (Z : Nat → Hp → Prop) (z0 : Z 0 H0) (keep : ∀ (i : Nat) (H : Hp), i ≤ xs.length → Z i H → SqT K H a xs)
    (step : ∀ (i : Nat) (x : V) (H : Hp), xs[i]? = some x → Z i H → g x (wipe σ vs) H fun σ2 H2 => wipe σ2 vs = wipe σ vs ∧ tt σ2 H2 fun b H3 => if b = true then EM σ2 H3 (Z (i + 1)) else Z (i + 1) H3)
    (done : ∀ H, Z xs.length H → Qe H) : ∃ W, (∃ m, W 0 m H0) ∧ tTurns (Itt K a) g tt vs EM σ Qe W := by
  refine ⟨fun i m H => i ≤ xs.length ∧ m = xs.length - i ∧ Z i H, ⟨_, Nat.zero_le _, rfl, z0⟩, ?_⟩
  rintro i m H ⟨le, rfl, z⟩
  by_cases e : i = xs.length
  · exact .inl ⟨⟨xs, keep i H le z, Nat.le_of_eq e.symm⟩, done H (e ▸ z)⟩
  · have lt : i < xs.length := by omega
    refine .inr ⟨⟨xs, xs[i], keep i H le z, List.getElem?_eq_getElem lt⟩, Z (i + 1), fun H' z' => ⟨xs.length - (i + 1), by omega, by omega, rfl, z'⟩, ?_⟩
    rintro x H' ⟨rfl, hx⟩
    exact step i x H' (hx xs (keep i H' le z)) z
end Vx
namespace My
open PySem PySem.Spec PyProof.Rows L2 Vx
def topS (i : Nat) : Stmt := PySem.Challenge.pw_longlife_k28_whole_rings_unrolled.main.body.getD i (.Pass ⟨0, 0, 0, 0⟩)
abbrev s_sums_of : Stmt := topS 2
abbrev N_sums_of : List Str := ["left", "alive", "right", "odd"]
theorem sc_sums_of : FnScope N_sums_of ["left", "alive", "right"] (defScope s_sums_of) := ⟨rfl, rfl, rfl, by decide +kernel, rfl, by decide +kernel, by decide +kernel⟩
abbrev s_totals_of : Stmt := topS 3
abbrev N_totals_of : List Str := ["above", "here", "below", "above_ones", "above_twos", "here_ones", "here_twos", "below_ones", "below_twos", "odd", "carried", "first", "second", "first_four", "second_four", "fours"]
theorem sc_totals_of : FnScope N_totals_of ["above", "here", "below"] (defScope s_totals_of) := ⟨rfl, rfl, rfl, by decide +kernel, rfl, by decide +kernel, by decide +kernel⟩
abbrev s_next_strip : Stmt := topS 4
abbrev N_next_strip : List Str := ["alive", "totals", "rule", "ones", "twos", "fours", "eights", "near", "not_ones", "not_twos", "low", "high", "born", "number", "kept", "total"]
theorem sc_next_strip : FnScope N_next_strip ["alive", "totals", "rule"] (defScope s_next_strip) := ⟨rfl, rfl, rfl, by decide +kernel, rfl, by decide +kernel, by decide +kernel⟩
abbrev s_pattern : Stmt := topS 6
abbrev N_pattern : List Str := ["cells"]
theorem sc_pattern : FnScope N_pattern ["cells"] (defScope s_pattern) := ⟨rfl, rfl, rfl, by decide +kernel, rfl, by decide +kernel, by decide +kernel⟩
abbrev s_Ring_init : Stmt := inClass (topS 8) 0
abbrev N_Ring_init : List Str := ["self", "rule", "height", "width", "row"]
theorem sc_Ring_init : FnScope N_Ring_init ["self", "rule", "height", "width"] (defScope s_Ring_init) := ⟨rfl, rfl, rfl, by decide +kernel, rfl, by decide +kernel, by decide +kernel⟩
abbrev s_Ring_bits : Stmt := inClass (topS 8) 1
abbrev N_Ring_bits : List Str := ["self", "cells", "bits", "row", "column"]
theorem sc_Ring_bits : FnScope N_Ring_bits ["self", "cells"] (defScope s_Ring_bits) := ⟨rfl, rfl, rfl, by decide +kernel, rfl, by decide +kernel, by decide +kernel⟩
abbrev s_Ring_cells : Stmt := inClass (topS 8) 2
abbrev N_Ring_cells : List Str := ["self", "bits", "cells", "lowest"]
theorem sc_Ring_cells : FnScope N_Ring_cells ["self", "bits"] (defScope s_Ring_cells) := ⟨rfl, rfl, rfl, by decide +kernel, rfl, by decide +kernel, by decide +kernel⟩
abbrev s_Ring_after : Stmt := inClass (topS 8) 3
abbrev N_Ring_after : List Str := ["self", "bits", "ones", "twos", "above", "below"]
theorem sc_Ring_after : FnScope N_Ring_after ["self", "bits"] (defScope s_Ring_after) := ⟨rfl, rfl, rfl, by decide +kernel, rfl, by decide +kernel, by decide +kernel⟩
abbrev s_Ring_from_left : Stmt := inClass (topS 8) 4
abbrev N_Ring_from_left : List Str := ["self", "bits", "inner"]
theorem sc_Ring_from_left : FnScope N_Ring_from_left ["self", "bits"] (defScope s_Ring_from_left) := ⟨rfl, rfl, rfl, by decide +kernel, rfl, by decide +kernel, by decide +kernel⟩
abbrev s_Ring_from_right : Stmt := inClass (topS 8) 5
abbrev N_Ring_from_right : List Str := ["self", "bits", "inner"]
theorem sc_Ring_from_right : FnScope N_Ring_from_right ["self", "bits"] (defScope s_Ring_from_right) := ⟨rfl, rfl, rfl, by decide +kernel, rfl, by decide +kernel, by decide +kernel⟩
abbrev s_Ring_from_above : Stmt := inClass (topS 8) 6
abbrev N_Ring_from_above : List Str := ["self", "bits"]
theorem sc_Ring_from_above : FnScope N_Ring_from_above ["self", "bits"] (defScope s_Ring_from_above) := ⟨rfl, rfl, rfl, by decide +kernel, rfl, by decide +kernel, by decide +kernel⟩
abbrev s_Ring_from_below : Stmt := inClass (topS 8) 7
abbrev N_Ring_from_below : List Str := ["self", "bits"]
theorem sc_Ring_from_below : FnScope N_Ring_from_below ["self", "bits"] (defScope s_Ring_from_below) := ⟨rfl, rfl, rfl, by decide +kernel, rfl, by decide +kernel, by decide +kernel⟩
abbrev s_Ring_history : Stmt := inClass (topS 8) 8
abbrev N_Ring_history : List Str := ["self", "cells", "bound", "states", "numbers", "generation", "state"]
theorem sc_Ring_history : FnScope N_Ring_history ["self", "cells", "bound"] (defScope s_Ring_history) := ⟨rfl, rfl, rfl, by decide +kernel, rfl, by decide +kernel, by decide +kernel⟩
abbrev s_ring_grown : Stmt := topS 9
abbrev N_ring_grown : List Str := ["cells", "rule", "height", "width", "generations", "ring", "states", "start"]
theorem sc_ring_grown : FnScope N_ring_grown ["cells", "rule", "height", "width", "generations"] (defScope s_ring_grown) := ⟨rfl, rfl, rfl, by decide +kernel, rfl, by decide +kernel, by decide +kernel⟩
abbrev s_unrolled : Stmt := topS 10
abbrev N_unrolled : List Str := ["cells", "height", "width", "rows", "columns", "row", "column", "down", "beside"]
theorem sc_unrolled : FnScope N_unrolled ["cells", "height", "width", "rows", "columns"] (defScope s_unrolled) := ⟨rfl, rfl, rfl, by decide +kernel, rfl, by decide +kernel, by decide +kernel⟩
abbrev s_Rule_init : Stmt := inClass (topS 12) 0
abbrev N_Rule_init : List Str := ["self", "births", "survival"]
theorem sc_Rule_init : FnScope N_Rule_init ["self", "births", "survival"] (defScope s_Rule_init) := ⟨rfl, rfl, rfl, by decide +kernel, rfl, by decide +kernel, by decide +kernel⟩
abbrev s_law_cell : Stmt := topS 14
abbrev N_law_cell : List Str := ["script", "k"]
theorem sc_law_cell : FnScope N_law_cell ["script", "k"] (defScope s_law_cell) := ⟨rfl, rfl, rfl, by decide +kernel, rfl, by decide +kernel, by decide +kernel⟩
abbrev s_law_row : Stmt := topS 15
abbrev N_law_row : List Str := ["cell", "count", "bound", "rest", "mixed", "row", "k"]
theorem sc_law_row : FnScope N_law_row ["cell", "count", "bound"] (defScope s_law_row) := ⟨rfl, rfl, rfl, by decide +kernel, rfl, by decide +kernel, by decide +kernel⟩
abbrev s_law_integer : Stmt := topS 16
abbrev N_law_integer : List Str := ["value"]
theorem sc_law_integer : FnScope N_law_integer ["value"] (defScope s_law_integer) := ⟨rfl, rfl, rfl, by decide +kernel, rfl, by decide +kernel, by decide +kernel⟩
abbrev s_law_cells : Stmt := topS 17
abbrev N_law_cells : List Str := ["value", "cell"]
theorem sc_law_cells : FnScope N_law_cells ["value"] (defScope s_law_cells) := ⟨rfl, rfl, rfl, by decide +kernel, rfl, by decide +kernel, by decide +kernel⟩
abbrev s_law_numbers : Stmt := topS 18
abbrev N_law_numbers : List Str := ["cell", "x", "births", "survival", "k"]
theorem sc_law_numbers : FnScope N_law_numbers ["cell"] (defScope s_law_numbers) := ⟨rfl, rfl, rfl, by decide +kernel, rfl, by decide +kernel, by decide +kernel⟩
abbrev s_law_some : Stmt := topS 19
abbrev N_law_some : List Str := ["cell", "count", "height", "width", "x", "found", "y", "place"]
theorem sc_law_some : FnScope N_law_some ["cell", "count", "height", "width"] (defScope s_law_some) := ⟨rfl, rfl, rfl, by decide +kernel, rfl, by decide +kernel, by decide +kernel⟩
abbrev s_law_next : Stmt := topS 20
abbrev N_law_next : List Str := ["cells", "births", "survival", "counts", "alive", "r", "c", "i", "j", "found", "place"]
theorem sc_law_next : FnScope N_law_next ["cells", "births", "survival"] (defScope s_law_next) := ⟨rfl, rfl, rfl, by decide +kernel, rfl, by decide +kernel, by decide +kernel⟩
abbrev s_law : Stmt := topS 21
abbrev N_law : List Str := ["script", "births", "survival", "rule", "first", "h", "w", "cells", "m", "generations", "due", "i", "j", "now", "told", "wide", "turn", "top", "left", "middle", "r", "c"]
theorem sc_law : FnScope N_law ["script"] (defScope s_law) := ⟨rfl, rfl, rfl, by decide +kernel, rfl, by decide +kernel, by decide +kernel⟩
structure Txt (K : PySem.W.Frag) (mg : Str → Option Value) where
  C_Ring : Addr
  g_Ring : mg "Ring" = some (.ref C_Ring)
  cl_Ring : Cls K C_Ring
  na_Ring__rule : NoAttr K C_Ring "_rule"
  na_Ring__height : NoAttr K C_Ring "_height"
  na_Ring__width : NoAttr K C_Ring "_width"
  na_Ring__full : NoAttr K C_Ring "_full"
  na_Ring__first_column : NoAttr K C_Ring "_first_column"
  na_Ring__last_column : NoAttr K C_Ring "_last_column"
  C_Rule : Addr
  g_Rule : mg "Rule" = some (.ref C_Rule)
  cl_Rule : Cls K C_Rule
  na_Rule_births : NoAttr K C_Rule "births"
  na_Rule_survival : NoAttr K C_Rule "survival"
  f_sums_of : Addr
  d_sums_of : FuncData
  F_sums_of : Fun K "sums_of" "sums_of" s_sums_of f_sums_of d_sums_of
  b_sums_of : Binds K d_sums_of ["left", "alive", "right"] []
  g_sums_of : mg "sums_of" = some (.ref f_sums_of)
  f_totals_of : Addr
  d_totals_of : FuncData
  F_totals_of : Fun K "totals_of" "totals_of" s_totals_of f_totals_of d_totals_of
  b_totals_of : Binds K d_totals_of ["above", "here", "below"] []
  g_totals_of : mg "totals_of" = some (.ref f_totals_of)
  f_next_strip : Addr
  d_next_strip : FuncData
  F_next_strip : Fun K "next_strip" "next_strip" s_next_strip f_next_strip d_next_strip
  b_next_strip : Binds K d_next_strip ["alive", "totals", "rule"] []
  g_next_strip : mg "next_strip" = some (.ref f_next_strip)
  f_pattern : Addr
  d_pattern : FuncData
  F_pattern : Fun K "pattern" "pattern" s_pattern f_pattern d_pattern
  b_pattern : Binds K d_pattern ["cells"] []
  g_pattern : mg "pattern" = some (.ref f_pattern)
  f_Ring_init : Addr
  d_Ring_init : FuncData
  F_Ring_init : Fun K "__init__" "Ring.__init__" s_Ring_init f_Ring_init d_Ring_init
  b_Ring_init : Binds K d_Ring_init ["self", "rule", "height", "width"] []
  M_Ring : Mk K C_Ring f_Ring_init
  f_Ring_bits : Addr
  d_Ring_bits : FuncData
  F_Ring_bits : Fun K "bits" "Ring.bits" s_Ring_bits f_Ring_bits d_Ring_bits
  b_Ring_bits : Binds K d_Ring_bits ["self", "cells"] []
  m_Ring_bits : Meth K C_Ring "bits" f_Ring_bits
  f_Ring_cells : Addr
  d_Ring_cells : FuncData
  F_Ring_cells : Fun K "cells" "Ring.cells" s_Ring_cells f_Ring_cells d_Ring_cells
  b_Ring_cells : Binds K d_Ring_cells ["self", "bits"] []
  m_Ring_cells : Meth K C_Ring "cells" f_Ring_cells
  f_Ring_after : Addr
  d_Ring_after : FuncData
  F_Ring_after : Fun K "after" "Ring.after" s_Ring_after f_Ring_after d_Ring_after
  b_Ring_after : Binds K d_Ring_after ["self", "bits"] []
  m_Ring_after : Meth K C_Ring "after" f_Ring_after
  f_Ring_from_left : Addr
  d_Ring_from_left : FuncData
  F_Ring_from_left : Fun K "_from_left" "Ring._from_left" s_Ring_from_left f_Ring_from_left d_Ring_from_left
  b_Ring_from_left : Binds K d_Ring_from_left ["self", "bits"] []
  m_Ring_from_left : Meth K C_Ring "_from_left" f_Ring_from_left
  f_Ring_from_right : Addr
  d_Ring_from_right : FuncData
  F_Ring_from_right : Fun K "_from_right" "Ring._from_right" s_Ring_from_right f_Ring_from_right d_Ring_from_right
  b_Ring_from_right : Binds K d_Ring_from_right ["self", "bits"] []
  m_Ring_from_right : Meth K C_Ring "_from_right" f_Ring_from_right
  f_Ring_from_above : Addr
  d_Ring_from_above : FuncData
  F_Ring_from_above : Fun K "_from_above" "Ring._from_above" s_Ring_from_above f_Ring_from_above d_Ring_from_above
  b_Ring_from_above : Binds K d_Ring_from_above ["self", "bits"] []
  m_Ring_from_above : Meth K C_Ring "_from_above" f_Ring_from_above
  f_Ring_from_below : Addr
  d_Ring_from_below : FuncData
  F_Ring_from_below : Fun K "_from_below" "Ring._from_below" s_Ring_from_below f_Ring_from_below d_Ring_from_below
  b_Ring_from_below : Binds K d_Ring_from_below ["self", "bits"] []
  m_Ring_from_below : Meth K C_Ring "_from_below" f_Ring_from_below
  f_Ring_history : Addr
  d_Ring_history : FuncData
  F_Ring_history : Fun K "history" "Ring.history" s_Ring_history f_Ring_history d_Ring_history
  b_Ring_history : Binds K d_Ring_history ["self", "cells", "bound"] []
  m_Ring_history : Meth K C_Ring "history" f_Ring_history
  f_ring_grown : Addr
  d_ring_grown : FuncData
  F_ring_grown : Fun K "ring_grown" "ring_grown" s_ring_grown f_ring_grown d_ring_grown
  b_ring_grown : Binds K d_ring_grown ["cells", "rule", "height", "width", "generations"] []
  g_ring_grown : mg "ring_grown" = some (.ref f_ring_grown)
  f_unrolled : Addr
  d_unrolled : FuncData
  F_unrolled : Fun K "unrolled" "unrolled" s_unrolled f_unrolled d_unrolled
  b_unrolled : Binds K d_unrolled ["cells", "height", "width", "rows", "columns"] []
  g_unrolled : mg "unrolled" = some (.ref f_unrolled)
  f_Rule_init : Addr
  d_Rule_init : FuncData
  F_Rule_init : Fun K "__init__" "Rule.__init__" s_Rule_init f_Rule_init d_Rule_init
  b_Rule_init : Binds K d_Rule_init ["self", "births", "survival"] []
  M_Rule : Mk K C_Rule f_Rule_init
  f_law_cell : Addr
  d_law_cell : FuncData
  F_law_cell : Fun K "_law_cell" "_law_cell" s_law_cell f_law_cell d_law_cell
  b_law_cell : Binds K d_law_cell ["script", "k"] []
  g_law_cell : mg "_law_cell" = some (.ref f_law_cell)
  f_law_row : Addr
  d_law_row : FuncData
  F_law_row : Fun K "_law_row" "_law_row" s_law_row f_law_row d_law_row
  b_law_row : Binds K d_law_row ["cell", "count", "bound"] []
  g_law_row : mg "_law_row" = some (.ref f_law_row)
  f_law_integer : Addr
  d_law_integer : FuncData
  F_law_integer : Fun K "_law_integer" "_law_integer" s_law_integer f_law_integer d_law_integer
  b_law_integer : Binds K d_law_integer ["value"] []
  g_law_integer : mg "_law_integer" = some (.ref f_law_integer)
  f_law_cells : Addr
  d_law_cells : FuncData
  F_law_cells : Fun K "_law_cells" "_law_cells" s_law_cells f_law_cells d_law_cells
  b_law_cells : Binds K d_law_cells ["value"] []
  g_law_cells : mg "_law_cells" = some (.ref f_law_cells)
  f_law_numbers : Addr
  d_law_numbers : FuncData
  F_law_numbers : Fun K "_law_numbers" "_law_numbers" s_law_numbers f_law_numbers d_law_numbers
  b_law_numbers : Binds K d_law_numbers ["cell"] []
  g_law_numbers : mg "_law_numbers" = some (.ref f_law_numbers)
  f_law_some : Addr
  d_law_some : FuncData
  F_law_some : Fun K "_law_some" "_law_some" s_law_some f_law_some d_law_some
  b_law_some : Binds K d_law_some ["cell", "count", "height", "width"] []
  g_law_some : mg "_law_some" = some (.ref f_law_some)
  f_law_next : Addr
  d_law_next : FuncData
  F_law_next : Fun K "_law_next" "_law_next" s_law_next f_law_next d_law_next
  b_law_next : Binds K d_law_next ["cells", "births", "survival"] []
  g_law_next : mg "_law_next" = some (.ref f_law_next)
  f_law : Addr
  d_law : FuncData
  F_law : Fun K "law" "law" s_law f_law d_law
  b_law : Binds K d_law ["script"] []
  g_law : mg "law" = some (.ref f_law)
  z_sorted : mg "sorted" = none
  z_set : mg "set" = none
  z_range : mg "range" = none
  z_divmod : mg "divmod" = none
  z_len : mg "len" = none
  z_tuple : mg "tuple" = none
  z_int : mg "int" = none
  z_abs : mg "abs" = none
  z_isinstance : mg "isinstance" = none
  z_bool : mg "bool" = none
  z_list : mg "list" = none
  z_min : mg "min" = none
end My
namespace My
open PySem PySem.Spec PyProof.Rows L2 Vx
open TL
local macro_rules | `(tactic| k_invariant "new" ($n, $H:ident, $e:ident, $h:ident)) => `(tactic| (generalize hE : upd _ _ _ = $H; obtain ⟨$e:ident, $h:ident⟩ := gen_e hE $n; clear hE))
local macro_rules | `(tactic| k_places) => `(tactic| first
  | assumption
  | exact lst_of (by assumption)
  | exact tup_of (by assumption)
  | (refine getS (by assumption) ?_; k_places)
  | (refine Same.seq (by assumption) ?_; k_places)
  | (refine tupS (by assumption) ?_; k_places)
  | (refine lst_of ?_; k_places)
  | (refine tup_of ?_; k_places))
local macro_rules | `(tactic| k_subL) => `(tactic| first
  | k_places
  | solve_by_elim (maxDepth := 10) [getS, lst_of, tup_of, Same.seq, tupS])
local macro_rules | `(tactic| k_offL) => `(tactic| first
  | (show (0 : Int) < _; first | omega | decide)
  | (refine ⟨?_, ?_⟩ <;> first | omega | decide)
  | exact .inr ⟨by decide, by decide⟩
  | exact .inl ⟨by decide, by decide⟩
  | exact .inl ⟨by omega, by omega⟩
  | omega)
local macro_rules | `(tactic| k_clsL) => `(tactic| exact Nat.le_of_ble_eq_true rfl)
local macro_rules | `(tactic| k_upd) => `(tactic| simp only [L2.start, List.map_cons, List.map_nil, List.length_cons, List.length_nil, List.replicate_succ, List.replicate_zero, List.cons_append, List.nil_append, List.set_cons_zero, List.set_cons_succ])
section
variable {P : Program} {w : World} {K : PySem.W.Frag} {mg : Str → Option Value} {base : Heap}
/-! ### rules -/
theorem bs_ne : ¬ (("births" : Str) = "survival") := by decide +kernel
theorem sb_ne : ¬ (("survival" : Str) = "births") := by decide +kernel
def rf (tb ts : Addr) : List (Str × V) := putF "survival" (.ref ts) (putF "births" (.ref tb) [])
theorem rf_b (tb ts : Addr) : (rf tb ts).lookup ("births" : Str) = some (.ref tb) := by
  unfold rf
  rw [lookup_putF, if_neg bs_ne, lookup_putF, if_pos rfl]
theorem rf_s (tb ts : Addr) : (rf tb ts).lookup ("survival" : Str) = some (.ref ts) := by
  unfold rf
  rw [lookup_putF, if_pos rfl]
theorem rf_no (tb ts : Addr) {m : Str} (h1 : ¬ m = "survival") (h2 : ¬ m = "births") : (rf tb ts).lookup m = none := by
  unfold rf
  rw [lookup_putF, if_neg h1, lookup_putF, if_neg h2]
  rfl
def RuleAt (C : Addr) (H : Hp) (r : Addr) (bs ss : List Int) : Prop :=
  ∃ dx tb ts, H r = some (.ins C dx (rf tb ts)) ∧ H tb = some (.tup (bs.map V.int)) ∧ H ts = some (.tup (ss.map V.int))
theorem RuleAt.up {C : Addr} {H H' : Hp} {r : Addr} {bs ss : List Int} (e : Same H H') (h : RuleAt C H r bs ss) : RuleAt C H' r bs ss := by
  obtain ⟨dx, tb, ts, h1, h2, h3⟩ := h
  exact ⟨dx, tb, ts, e _ _ h1, e _ _ h2, e _ _ h3⟩
def Canon (ns l : List Int) : Prop := l.Pairwise (· < ·) ∧ ∀ k, k ∈ l ↔ k ∈ ns
theorem canon_eq {ns l m : List Int} (h : Canon ns l) (h2 : m.Pairwise (· < ·)) (h3 : ∀ k, k ∈ ns ↔ k ∈ m) : l = m := asc_eq h.1 h2 fun k => (h.2 k).trans (h3 k)
def sp_Rule_init (K : PySem.W.Frag) (C : Addr) : Sp := fun vs H Q _ => ∃ (H0 : Hp) (r lb ls dx : Addr) (nb ns : List Int), vs = [.ref r, .ref lb, .ref ls] ∧ Same H0 H ∧ H0 r = none ∧ H r = some (.ins C dx []) ∧
  SqL K H0 lb (nb.map V.int) ∧ SqL K H0 ls (ns.map V.int) ∧ nb.length ≤ 63 ∧ ns.length ≤ 63 ∧
  ∀ (H' : Hp) (bs ss : List Int), Same H0 H' → RuleAt C H' r bs ss → Canon nb bs → Canon ns ss → Q .non H'
theorem ok_Rule_init (T : Txt K mg) : FnOk P w K mg base CX0 1 T.f_Rule_init T.d_Rule_init ["self", "births", "survival"] (sp_Rule_init K T.C_Rule) := by
  refine T.F_Rule_init.ok sc_Rule_init (fun vs H Q E h => ?_) (fun cdv A outer s H vs Q E hr h => ?_)
  · obtain ⟨_, _, _, _, _, _, _, rfl, _⟩ := h
    rfl
  · obtain ⟨H0, r, lb, ls, dx, nb, ns, rfl, s0, r0, hr0, hb, hs, l1, l2, q⟩ := h
    refine ⟨_, (pss_cons (ps_fld (pv 0) (pe_callTy call_tupL (by rfl) T.z_tuple (by decide +kernel) (pa_cons (pe_callB (cr_sortedSet rfl) (by rfl) T.z_sorted (by decide +kernel) (pa_cons (pe_callTy (cr_setL rfl) (by rfl) T.z_set (by decide +kernel) (pa_cons (pv 1) pa_nil)) pa_nil)) pa_nil)) rfl)
      (pss_one (ps_fld (pv 0) (pe_callTy call_tupL (by rfl) T.z_tuple (by decide +kernel) (pa_cons (pe_callB (cr_sortedSet rfl) (by rfl) T.z_sorted (by decide +kernel) (pa_cons (pe_callTy (cr_setL rfl) (by rfl) T.z_set (by decide +kernel) (pa_cons (pv 2) pa_nil)) pa_nil)) pa_nil)) rfl))), ?_⟩
    refine ⟨_, rfl, lb, nb, rfl, s0.seq hb, Nat.lt_of_le_of_lt (Nat.add_le_add_right l1 1) (by decide), fun p1 c1 n1 hc1 => ?_⟩
    k_invariant "new" (n1, H1, e1, h1)
    refine ⟨_, _, _, rfl, h1, by omega, fun bs p2 pw1 mem1 len1 n2 => ?_⟩
    k_invariant "new" (n2, H2, e2, h2)
    refine ⟨_, _, rfl, lst_of h2, fun p3 n3 => ?_⟩
    k_invariant "new" (n3, H3, e3, h3)
    refine ⟨_, rfl, r, T.C_Rule, dx, [], rfl, by k_subL, T.cl_Rule, T.na_Rule_births, (by show 0 < 1000; decide), ?_⟩
    have s3 : Same H0 H3 := s0.trans (e1.trans (e2.trans e3))
    have r3 : p3 ≠ r := fun e => by
      have : H3 r = some (.ins T.C_Rule dx []) := by k_subL
      rw [e] at h3
      rw [h3] at this
      cases this
    have s4 : Same H0 (upd H3 r (.ins T.C_Rule dx (putF "births" (.ref p3) []))) := mutS s3 r0
    have g4 : upd H3 r (.ins T.C_Rule dx (putF "births" (.ref p3) [])) r = some (.ins T.C_Rule dx (putF "births" (.ref p3) [])) := upd_same
    have g3 : upd H3 r (.ins T.C_Rule dx (putF "births" (.ref p3) [])) p3 = some (.tup (bs.map V.int)) := by rw [upd_ne r3]; exact h3
    generalize upd H3 r (.ins T.C_Rule dx (putF "births" (.ref p3) [])) = H4 at s4 g4 g3
    refine ⟨_, rfl, ls, ns, rfl, s4.seq hs, Nat.lt_of_le_of_lt (Nat.add_le_add_right l2 1) (by decide), fun p5 c2 n5 hc2 => ?_⟩
    k_invariant "new" (n5, H5, e5, h5)
    refine ⟨_, _, _, rfl, h5, by omega, fun ss p6 pw2 mem2 len2 n6 => ?_⟩
    k_invariant "new" (n6, H6, e6, h6)
    refine ⟨_, _, rfl, lst_of h6, fun p7 n7 => ?_⟩
    k_invariant "new" (n7, H7, e7, h7)
    have g8 : H7 r = some (.ins T.C_Rule dx (putF "births" (.ref p3) [])) := by k_subL
    refine ⟨_, rfl, r, T.C_Rule, dx, _, rfl, g8, T.cl_Rule, T.na_Rule_survival, (by show 1 < 1000; decide), ?_⟩
    have r7 : p7 ≠ r := fun e => by
      have : H7 r = some (.ins T.C_Rule dx (putF "births" (.ref p3) [])) := by k_subL
      rw [e] at h7
      rw [h7] at this
      cases this
    have g7 : H7 p3 = some (.tup (bs.map V.int)) := by k_subL
    refine q _ bs ss (mutS (s4.trans (e5.trans (e6.trans e7))) r0) ⟨dx, p3, p7, upd_same, ?_, ?_⟩ ⟨pw1, fun k => (mem1 k).trans (by simp)⟩ ⟨pw2, fun k => (mem2 k).trans (by simp)⟩
    · rw [upd_ne r3]; exact g7
    · rw [upd_ne r7]; exact h7
/-! ### three rows of bits counted -/
def ones3 (l a r : Nat) : Nat := (l ^^^ r) ^^^ a
def twos3 (l a r : Nat) : Nat := (l &&& r) ||| ((l ^^^ r) &&& a)
def sp_sums_of : Sp := fun vs H Q _ => ∃ (l a r : Nat), vs = [.int (l : Int), .int (a : Int), .int (r : Int)] ∧
  ∀ (H' : Hp) (p : Addr), Same H H' → H p = none → H' p = some (.tup [.int (ones3 l a r : Nat), .int (twos3 l a r : Nat)]) → Q (.ref p) H'
theorem ok_sums_of (T : Txt K mg) : FnOk P w K mg base CX0 1 T.f_sums_of T.d_sums_of ["left", "alive", "right"] sp_sums_of := by
  refine T.F_sums_of.ok sc_sums_of (fun vs H Q E h => ?_) (fun cdv A outer s H vs Q E hr h => ?_)
  · obtain ⟨_, _, _, rfl, _⟩ := h
    rfl
  · obtain ⟨l, a, r, rfl, q⟩ := h
    refine ⟨_, (pss_cons (ps_set (i := 3) sc_sums_of.nd rfl (.inl rfl) (pe_op op_xorNN (pv 0) (pv 2)))
      (pss_one (ps_ret (pe_tup (pa_cons (pe_op op_xorNN (pv 3) (pv 1)) (pa_cons (pe_op op_orNN (pe_op op_andNN (pv 0) (pv 2)) (pe_op op_andNN (pv 3) (pv 1))) pa_nil)))))), ?_⟩
    exact ⟨_, rfl, _, rfl, _, _, rfl, rfl, _, rfl, _, rfl, _, _, rfl, rfl, _, rfl, _, rfl, _, _, rfl, rfl, _, rfl, _, rfl, _, _, rfl, rfl, _, _, rfl, rfl, (by k_clsL), fun p n => q _ p (newS n) n upd_same⟩
def one9 (ao ho bo : Nat) : Nat := (ao ^^^ bo) ^^^ ho
def car9 (ao ho bo : Nat) : Nat := (ao &&& bo) ||| ((ao ^^^ bo) &&& ho)
def two9 (ao at' ho ht bo bt : Nat) : Nat := (at' ^^^ bt) ^^^ (ht ^^^ car9 ao ho bo)
def four9 (ao at' ho ht bo bt : Nat) : Nat := ((at' &&& bt) ^^^ (ht &&& car9 ao ho bo)) ||| ((at' ^^^ bt) &&& (ht ^^^ car9 ao ho bo))
def eight9 (ao at' ho ht bo bt : Nat) : Nat := (at' &&& bt) &&& (ht &&& car9 ao ho bo)
def sp_totals_of : Sp := fun vs H Q _ => ∃ (pa ph pb : Addr) (ao at' ho ht bo bt : Nat), vs = [.ref pa, .ref ph, .ref pb] ∧
  H pa = some (.tup [.int (ao : Int), .int (at' : Int)]) ∧ H ph = some (.tup [.int (ho : Int), .int (ht : Int)]) ∧ H pb = some (.tup [.int (bo : Int), .int (bt : Int)]) ∧
  ∀ (H' : Hp) (p : Addr), Same H H' → H p = none → H' p = some (.tup [.int (one9 ao ho bo : Nat), .int (two9 ao at' ho ht bo bt : Nat), .int (four9 ao at' ho ht bo bt : Nat), .int (eight9 ao at' ho ht bo bt : Nat)]) → Q (.ref p) H'
theorem ok_totals_of (T : Txt K mg) : FnOk P w K mg base CX0 1 T.f_totals_of T.d_totals_of ["above", "here", "below"] sp_totals_of := by
  refine T.F_totals_of.ok sc_totals_of (fun vs H Q E h => ?_) (fun cdv A outer s H vs Q E hr h => ?_)
  · obtain ⟨_, _, _, _, _, _, _, _, _, rfl, _⟩ := h
    rfl
  · obtain ⟨pa, ph, pb, ao, at', ho, ht, bo, bt, rfl, ha, hh, hb, q⟩ := h
    refine ⟨_, (pss_cons (ps_asg (pv 0) (pg_tupK (K := K) (n := 2) rfl rfl (pgs_cons (pg_name (i := 3) sc_totals_of.nd rfl (.inl rfl)) (pgs_cons (pg_name (i := 4) sc_totals_of.nd rfl (.inl rfl)) pgs_nil))))
      (pss_cons (ps_asg (pv 1) (pg_tupK (K := K) (n := 2) rfl rfl (pgs_cons (pg_name (i := 5) sc_totals_of.nd rfl (.inl rfl)) (pgs_cons (pg_name (i := 6) sc_totals_of.nd rfl (.inl rfl)) pgs_nil))))
      (pss_cons (ps_asg (pv 2) (pg_tupK (K := K) (n := 2) rfl rfl (pgs_cons (pg_name (i := 7) sc_totals_of.nd rfl (.inl rfl)) (pgs_cons (pg_name (i := 8) sc_totals_of.nd rfl (.inl rfl)) pgs_nil))))
      (pss_cons (ps_set (i := 9) sc_totals_of.nd rfl (.inl rfl) (pe_op op_xorNN (pv 3) (pv 7)))
      (pss_cons (ps_set (i := 10) sc_totals_of.nd rfl (.inl rfl) (pe_op op_orNN (pe_op op_andNN (pv 3) (pv 7)) (pe_op op_andNN (pv 9) (pv 5))))
      (pss_cons (ps_set (i := 11) sc_totals_of.nd rfl (.inl rfl) (pe_op op_xorNN (pv 4) (pv 8)))
      (pss_cons (ps_set (i := 12) sc_totals_of.nd rfl (.inl rfl) (pe_op op_xorNN (pv 6) (pv 10)))
      (pss_cons (ps_set (i := 13) sc_totals_of.nd rfl (.inl rfl) (pe_op op_andNN (pv 4) (pv 8)))
      (pss_cons (ps_set (i := 14) sc_totals_of.nd rfl (.inl rfl) (pe_op op_andNN (pv 6) (pv 10)))
      (pss_cons (ps_set (i := 15) sc_totals_of.nd rfl (.inl rfl) (pe_op op_orNN (pe_op op_xorNN (pv 13) (pv 14)) (pe_op op_andNN (pv 11) (pv 12))))
      (pss_one (ps_ret (pe_tup (pa_cons (pe_op op_xorNN (pv 9) (pv 5)) (pa_cons (pe_op op_xorNN (pv 11) (pv 12)) (pa_cons (pv 15) (pa_cons (pe_op op_andNN (pv 13) (pv 14)) pa_nil))))))))))))))))), ?_⟩
    k_upd
    refine ⟨_, rfl, pa, _, rfl, tup_of ha, rfl, _, _, rfl, _, _, rfl, rfl, ?_⟩
    k_upd
    refine ⟨_, rfl, ph, _, rfl, tup_of hh, rfl, _, _, rfl, _, _, rfl, rfl, ?_⟩
    k_upd
    refine ⟨_, rfl, pb, _, rfl, tup_of hb, rfl, _, _, rfl, _, _, rfl, rfl, ?_⟩
    k_upd
    refine ⟨_, rfl, _, rfl, _, _, rfl, rfl, ?_⟩
    k_upd
    refine ⟨_, rfl, _, rfl, _, _, rfl, rfl, _, rfl, _, rfl, _, _, rfl, rfl, _, _, rfl, rfl, ?_⟩
    k_upd
    refine ⟨_, rfl, _, rfl, _, _, rfl, rfl, ?_⟩
    k_upd
    refine ⟨_, rfl, _, rfl, _, _, rfl, rfl, ?_⟩
    k_upd
    refine ⟨_, rfl, _, rfl, _, _, rfl, rfl, ?_⟩
    k_upd
    refine ⟨_, rfl, _, rfl, _, _, rfl, rfl, ?_⟩
    k_upd
    refine ⟨_, rfl, _, rfl, _, _, rfl, rfl, _, rfl, _, rfl, _, _, rfl, rfl, _, _, rfl, rfl, ?_⟩
    k_upd
    refine ⟨_, rfl, _, rfl, _, _, rfl, rfl, _, rfl, _, rfl, _, _, rfl, rfl, _, rfl, _, rfl, _, rfl, _, _, rfl, rfl, (by k_clsL), fun p n => q _ p (newS n) n upd_same⟩
/-! ### the next strip -/
def near9 (o t f e : Nat) : Nat := ((o ||| t) ||| f) ||| e
def low4 (o t f e : Nat) : Nat → Nat
  | 0 => (near9 o t f e ^^^ o) &&& (near9 o t f e ^^^ t)
  | 1 => o &&& (near9 o t f e ^^^ t)
  | 2 => (near9 o t f e ^^^ o) &&& t
  | _ => o &&& t
def high3 (o t f e : Nat) : Nat → Nat
  | 0 => near9 o t f e ^^^ (f ||| e)
  | 1 => f
  | _ => e
def pick (o t f e n : Nat) : Nat := low4 o t f e (n % 4) &&& high3 o t f e (n / 4)
def picks (o t f e : Nat) (ns : List Nat) : Nat := ns.foldl (fun acc n => acc ||| pick o t f e n) 0
def nextN (alive o t f e : Nat) (bs ss : List Int) : Nat :=
  (picks o t f e (bs.map Int.toNat) &&& (near9 o t f e ^^^ alive)) ||| (picks o t f e (ss.map fun n => n.toNat + 1) &&& alive)
theorem at_low (o t f e : Nat) {k : Nat} (h : k < 4) : atI [V.int (((near9 o t f e ^^^ o) &&& (near9 o t f e ^^^ t) : Nat) : Int), .int ((o &&& (near9 o t f e ^^^ t) : Nat) : Int), .int (((near9 o t f e ^^^ o) &&& t : Nat) : Int), .int ((o &&& t : Nat) : Int)] (k : Int) = some (.int (low4 o t f e k : Nat)) := by
  match k, h with
  | 0, _ => rfl
  | 1, _ => rfl
  | 2, _ => rfl
  | 3, _ => rfl
theorem at_high (o t f e : Nat) {k : Nat} (h : k < 3) : atI [V.int ((near9 o t f e ^^^ (f ||| e) : Nat) : Int), .int (f : Int), .int (e : Int)] (k : Int) = some (.int (high3 o t f e k : Nat)) := by
  match k, h with
  | 0, _ => rfl
  | 1, _ => rfl
  | 2, _ => rfl
theorem and3 (m : Nat) : m &&& 3 = m % 4 := Nat.and_two_pow_sub_one_eq_mod m 2
theorem shr2 (m : Nat) : m >>> 2 = m / 4 := by rw [Nat.shiftRight_eq_div_pow]
def sp_next_strip (C : Addr) : Sp := fun vs H Q _ => ∃ (pt r : Addr) (alive o t f e : Nat) (bs ss : List Int), vs = [.int (alive : Int), .ref pt, .ref r] ∧
  H pt = some (.tup [.int (o : Int), .int (t : Int), .int (f : Int), .int (e : Int)]) ∧ RuleAt C H r bs ss ∧ (∀ b ∈ bs, 0 ≤ b ∧ b ≤ 8) ∧ (∀ b ∈ ss, 0 ≤ b ∧ b ≤ 8) ∧
  ∀ (H' : Hp), Same H H' → Q (.int (nextN alive o t f e bs ss : Nat)) H'
theorem ok_next_strip (T : Txt K mg) : FnOk P w K mg base CX0 1 T.f_next_strip T.d_next_strip ["alive", "totals", "rule"] (sp_next_strip T.C_Rule) := by
  refine T.F_next_strip.ok sc_next_strip (fun vs H Q E h => ?_) (fun cdv A outer s H vs Q E hr h => ?_)
  · obtain ⟨_, _, _, _, _, _, _, _, _, rfl, _⟩ := h
    rfl
  · obtain ⟨pt, r, alive, o, t, f, e, bs, ss, rfl, hp, hR, bb, bss, q⟩ := h
    refine ⟨_, (pss_cons (ps_asg (pv 1) (pg_tupK (K := K) (n := 4) rfl rfl (pgs_cons (pg_name (i := 3) sc_next_strip.nd rfl (.inl rfl)) (pgs_cons (pg_name (i := 4) sc_next_strip.nd rfl (.inl rfl)) (pgs_cons (pg_name (i := 5) sc_next_strip.nd rfl (.inl rfl)) (pgs_cons (pg_name (i := 6) sc_next_strip.nd rfl (.inl rfl)) pgs_nil))))))
      (pss_cons (ps_set (i := 7) sc_next_strip.nd rfl (.inl rfl) (pe_op op_orNN (pe_op op_orNN (pe_op op_orNN (pv 3) (pv 4)) (pv 5)) (pv 6)))
      (pss_cons (ps_set (i := 8) sc_next_strip.nd rfl (.inl rfl) (pe_op op_xorNN (pv 7) (pv 3)))
      (pss_cons (ps_set (i := 9) sc_next_strip.nd rfl (.inl rfl) (pe_op op_xorNN (pv 7) (pv 4)))
      (pss_cons (ps_set (i := 10) sc_next_strip.nd rfl (.inl rfl) (pe_tup (pa_cons (pe_op op_andNN (pv 8) (pv 9)) (pa_cons (pe_op op_andNN (pv 3) (pv 9)) (pa_cons (pe_op op_andNN (pv 8) (pv 4)) (pa_cons (pe_op op_andNN (pv 3) (pv 4)) pa_nil))))))
      (pss_cons (ps_set (i := 11) sc_next_strip.nd rfl (.inl rfl) (pe_tup (pa_cons (pe_op op_xorNN (pv 7) (pe_op op_orNN (pv 5) (pv 6))) (pa_cons (pv 5) (pa_cons (pv 6) pa_nil)))))
      (pss_cons (ps_set (i := 12) sc_next_strip.nd rfl (.inl rfl) pe_int)
      (pss_cons (ps_for PassesOwn.never rfl (pi_tup (pe_fld (pv 2) rfl)) (pg_name (i := 13) sc_next_strip.nd rfl (.inl rfl))
      (pss_one (ps_aug (i := 12) sc_next_strip.nd rfl (.inl rfl) (pe_op op_andNN (pe_ix (ix_tupK (K := K) rfl) (pv 10) (pe_op op_andNN (pv 13) pe_int) (fun _ _ => rfl)) (pe_ix (ix_tupK (K := K) rfl) (pv 11) (pe_op op_shrNN (pv 13) pe_int) (fun _ _ => rfl))) ip_orNN)))
      (pss_cons (ps_set (i := 14) sc_next_strip.nd rfl (.inl rfl) pe_int)
      (pss_cons (ps_for PassesOwn.never rfl (pi_tup (pe_fld (pv 2) rfl)) (pg_name (i := 13) sc_next_strip.nd rfl (.inl rfl))
      (pss_cons (ps_set (i := 15) sc_next_strip.nd rfl (.inl rfl) (pe_op op_add (pv 13) pe_int))
      (pss_one (ps_aug (i := 14) sc_next_strip.nd rfl (.inl rfl) (pe_op op_andNN (pe_ix (ix_tupK (K := K) rfl) (pv 10) (pe_op op_andNN (pv 15) pe_int) (fun _ _ => rfl)) (pe_ix (ix_tupK (K := K) rfl) (pv 11) (pe_op op_shrNN (pv 15) pe_int) (fun _ _ => rfl))) ip_orNN))))
      (pss_one (ps_ret (pe_op op_orNN (pe_op op_andNN (pv 12) (pe_op op_xorNN (pv 7) (pv 0))) (pe_op op_andNN (pv 14) (pv 0))))))))))))))), ?_⟩
    k_upd
    refine ⟨_, rfl, pt, _, rfl, tup_of hp, rfl, _, _, rfl, _, _, rfl, _, _, rfl, _, _, rfl, rfl, ?_⟩
    k_upd
    refine ⟨_, rfl, _, rfl, _, _, rfl, rfl, _, rfl, _, _, rfl, rfl, _, rfl, _, _, rfl, rfl, ?_⟩
    k_upd
    refine ⟨_, rfl, _, rfl, _, _, rfl, rfl, ?_⟩
    k_upd
    refine ⟨_, rfl, _, rfl, _, _, rfl, rfl, ?_⟩
    k_upd
    refine ⟨_, rfl, _, rfl, _, _, rfl, rfl, _, rfl, _, rfl, _, _, rfl, rfl, _, rfl, _, rfl, _, _, rfl, rfl, _, rfl, _, rfl, _, _, rfl, rfl, (by k_clsL), fun pl nl => ?_⟩
    k_upd
    k_invariant "new" (nl, H1, e1, h1)
    refine ⟨_, rfl, _, rfl, _, rfl, _, _, rfl, rfl, _, _, rfl, rfl, _, rfl, _, rfl, (by k_clsL), fun ph nh => ?_⟩
    k_upd
    k_invariant "new" (nh, H2, e2, h2)
    have h1 := e2 _ _ h1
    obtain ⟨dx, tb, ts, r1, r2, r3⟩ := hR.up (e1.trans e2)
    refine ⟨_, rfl, r, _, _, _, _, rfl, r1, T.cl_Rule, T.na_Rule_births, rf_b _ _, tb, rfl, ⟨_, tup_of r2⟩, ?_⟩
    refine for_it (walk_tup (K := K) (a := tb) (xs := bs.map V.int)) (fun i σ H' => H' = H2 ∧ ∃ n : Option V, σ = [some (.int (alive : Int)), some (.ref pt), some (.ref r), some (.int (o : Int)), some (.int (t : Int)), some (.int (f : Int)), some (.int (e : Int)), some (.int (near9 o t f e : Nat)), some (.int ((near9 o t f e ^^^ o : Nat))), some (.int ((near9 o t f e ^^^ t : Nat))), some (.ref pl), some (.ref ph), some (.int (picks o t f e ((bs.take i).map Int.toNat) : Nat)), n, none, none])
      ⟨rfl, _, rfl⟩ (fun i σ H' _ p => by rw [p.1]; exact tup_of r2) ?_ ?_
    · rintro i x σ H' H'' hi ⟨rfl, n, rfl⟩ ⟨rfl, hx⟩
      obtain ⟨z, rfl, hz, mz⟩ := item_ints hx
      have bz := bb z mz
      obtain ⟨m, rfl⟩ := Int.eq_ofNat_of_zero_le bz.1
      have m4 : m % 4 < 4 := Nat.mod_lt _ (by decide)
      have m3 : m / 4 < 3 := by omega
      refine ⟨_, rfl, _, rfl, _, rfl, m, 3, rfl, rfl, pl, _, _, _, rfl, rfl, tup_of h1, (by rw [and3]; exact at_low o t f e m4), ?_⟩
      refine ⟨_, rfl, _, rfl, m, 2, rfl, rfl, ph, _, _, _, rfl, rfl, tup_of h2, (by rw [shr2]; exact at_high o t f e m3), _, _, rfl, rfl, ?_⟩
      refine ⟨_, _, rfl, rfl, ?_⟩
      k_upd
      refine ⟨trivial, some (.int (m : Int)), ?_⟩
      rw [take_next hz, List.map_append]
      unfold picks
      rw [List.foldl_append]
      rfl
    · rintro σ H' ⟨rfl, n, rfl⟩
      rw [List.length_map, List.take_of_length_le (Nat.le_refl _)]
      refine ⟨_, rfl, r, _, _, _, _, rfl, r1, T.cl_Rule, T.na_Rule_survival, rf_s _ _, ts, rfl, ⟨_, tup_of r3⟩, ?_⟩
      refine for_it (walk_tup (K := K) (a := ts) (xs := ss.map V.int)) (fun i σ H'' => H'' = H' ∧ ∃ n n2 : Option V, σ = [some (.int (alive : Int)), some (.ref pt), some (.ref r), some (.int (o : Int)), some (.int (t : Int)), some (.int (f : Int)), some (.int (e : Int)), some (.int (near9 o t f e : Nat)), some (.int ((near9 o t f e ^^^ o : Nat))), some (.int ((near9 o t f e ^^^ t : Nat))), some (.ref pl), some (.ref ph), some (.int (picks o t f e (bs.map Int.toNat) : Nat)), n, some (.int (picks o t f e ((ss.take i).map fun n => n.toNat + 1) : Nat)), n2])
        ⟨rfl, _, _, rfl⟩ (fun i σ H'' _ p => by rw [p.1]; exact tup_of r3) ?_ ?_
      · rintro i x σ H3 H4 hi ⟨rfl, n, n2, rfl⟩ ⟨rfl, hx⟩
        obtain ⟨z, rfl, hz, mz⟩ := item_ints hx
        have bz := bss z mz
        obtain ⟨m, rfl⟩ := Int.eq_ofNat_of_zero_le bz.1
        have m4 : (m + 1) % 4 < 4 := Nat.mod_lt _ (by decide)
        have m3 : (m + 1) / 4 < 3 := by omega
        refine ⟨_, rfl, _, _, rfl, rfl, ?_⟩
        refine ⟨_, rfl, _, rfl, _, rfl, m + 1, 3, rfl, rfl, pl, _, _, _, rfl, rfl, tup_of h1, (by rw [and3]; exact at_low o t f e m4), ?_⟩
        refine ⟨_, rfl, _, rfl, m + 1, 2, rfl, rfl, ph, _, _, _, rfl, rfl, tup_of h2, (by rw [shr2]; exact at_high o t f e m3), _, _, rfl, rfl, ?_⟩
        refine ⟨_, _, rfl, rfl, ?_⟩
        k_upd
        refine ⟨trivial, some (.int (m : Int)), some (.int ((m : Int) + 1)), ?_⟩
        rw [take_next hz, List.map_append]
        unfold picks
        rw [List.foldl_append]
        rfl
      · rintro σ H3 ⟨rfl, n, n2, rfl⟩
        rw [List.length_map, List.take_of_length_le (Nat.le_refl _)]
        exact ⟨_, rfl, _, rfl, _, rfl, _, _, rfl, rfl, _, _, rfl, rfl, _, rfl, _, rfl, _, _, rfl, rfl, _, _, rfl, rfl, q _ (e1.trans e2)⟩
/-! ### what the bits say -/
def nb (L : Int → Int → Bool) (r c : Int) : Nat :=
  (L (r - 1) (c - 1)).toNat + (L (r - 1) c).toNat + (L (r - 1) (c + 1)).toNat + (L r (c - 1)).toNat + (L r (c + 1)).toNat + (L (r + 1) (c - 1)).toNat + (L (r + 1) c).toNat + (L (r + 1) (c + 1)).toNat
def stepL (bs ss : List Int) (L : Int → Int → Bool) (r c : Int) : Bool := if L r c = true then decide ((nb L r c : Int) ∈ ss) else decide ((nb L r c : Int) ∈ bs)
def genL (bs ss : List Int) (L : Int → Int → Bool) : Nat → Int → Int → Bool
  | 0 => L
  | n + 1 => stepL bs ss (genL bs ss L n)
def oneB (l a r : Bool) : Bool := (l ^^ r) ^^ a
def twoB (l a r : Bool) : Bool := (l && r) || ((l ^^ r) && a)
def carB (ao ho bo : Bool) : Bool := (ao && bo) || ((ao ^^ bo) && ho)
def sum9 (a b c d e f g h i : Bool) : Nat := a.toNat + b.toNat + c.toNat + d.toNat + e.toNat + f.toNat + g.toNat + h.toNat + i.toNat
theorem bits9 : ∀ a b c d e f g h i : Bool,
    ((oneB a b c ^^ oneB g h i) ^^ oneB d e f) = decide (sum9 a b c d e f g h i % 2 = 1) ∧
    ((twoB a b c ^^ twoB g h i) ^^ (twoB d e f ^^ carB (oneB a b c) (oneB d e f) (oneB g h i))) = decide (sum9 a b c d e f g h i / 2 % 2 = 1) ∧
    (((twoB a b c && twoB g h i) ^^ (twoB d e f && carB (oneB a b c) (oneB d e f) (oneB g h i))) || ((twoB a b c ^^ twoB g h i) && (twoB d e f ^^ carB (oneB a b c) (oneB d e f) (oneB g h i)))) = decide (sum9 a b c d e f g h i / 4 % 2 = 1) ∧
    ((twoB a b c && twoB g h i) && (twoB d e f && carB (oneB a b c) (oneB d e f) (oneB g h i))) = decide (sum9 a b c d e f g h i / 8 % 2 = 1) ∧ sum9 a b c d e f g h i < 10 := by
  decide +kernel
def lowB (o t n : Bool) : Nat → Bool
  | 0 => (n ^^ o) && (n ^^ t)
  | 1 => o && (n ^^ t)
  | 2 => (n ^^ o) && t
  | _ => o && t
def highB (f e n : Bool) : Nat → Bool
  | 0 => n ^^ (f || e)
  | 1 => f
  | _ => e
theorem pickB : ∀ s < 10, ∀ n < 10, 1 ≤ n → (lowB (decide (s % 2 = 1)) (decide (s / 2 % 2 = 1)) (((decide (s % 2 = 1) || decide (s / 2 % 2 = 1)) || decide (s / 4 % 2 = 1)) || decide (s / 8 % 2 = 1)) (n % 4) &&
    highB (decide (s / 4 % 2 = 1)) (decide (s / 8 % 2 = 1)) (((decide (s % 2 = 1) || decide (s / 2 % 2 = 1)) || decide (s / 4 % 2 = 1)) || decide (s / 8 % 2 = 1)) (n / 4)) = decide (s = n) := by
  decide +kernel
theorem nearB : ∀ s < 10, (((decide (s % 2 = 1) || decide (s / 2 % 2 = 1)) || decide (s / 4 % 2 = 1)) || decide (s / 8 % 2 = 1)) = decide (s ≠ 0) := by decide +kernel
theorem low4_bit (o t f e j : Nat) : ∀ k, (low4 o t f e k).testBit j = lowB (o.testBit j) (t.testBit j) ((near9 o t f e).testBit j) k
  | 0 => by show ((near9 o t f e ^^^ o) &&& (near9 o t f e ^^^ t)).testBit j = _; rw [Nat.testBit_and, Nat.testBit_xor, Nat.testBit_xor]; rfl
  | 1 => by show (o &&& (near9 o t f e ^^^ t)).testBit j = _; rw [Nat.testBit_and, Nat.testBit_xor]; rfl
  | 2 => by show ((near9 o t f e ^^^ o) &&& t).testBit j = _; rw [Nat.testBit_and, Nat.testBit_xor]; rfl
  | _ + 3 => by show (o &&& t).testBit j = _; rw [Nat.testBit_and]; rfl
theorem high3_bit (o t f e j : Nat) : ∀ k, (high3 o t f e k).testBit j = highB (f.testBit j) (e.testBit j) ((near9 o t f e).testBit j) k
  | 0 => by show (near9 o t f e ^^^ (f ||| e)).testBit j = _; rw [Nat.testBit_xor, Nat.testBit_or]; rfl
  | 1 => rfl
  | _ + 2 => rfl
theorem picks_bit (o t f e j : Nat) (ns : List Nat) : (picks o t f e ns).testBit j = ns.any fun n => (pick o t f e n).testBit j := by
  have go : ∀ (ns : List Nat) (a : Nat), (ns.foldl (fun acc n => acc ||| pick o t f e n) a).testBit j = (a.testBit j || ns.any fun n => (pick o t f e n).testBit j) := fun ns => by
    induction ns with
    | nil => exact fun a => by simp
    | cons n ns ih =>
      intro a
      rw [List.foldl_cons, ih, Nat.testBit_or, List.any_cons, Bool.or_assoc]
  unfold picks
  rw [go, Nat.zero_testBit, Bool.false_or]
/-- the bit of the next strip, by the total s of the nine -/
theorem nextN_bit {alive o t f e j s : Nat} {bs ss : List Int} (hs : s < 10) (h1 : o.testBit j = decide (s % 2 = 1)) (h2 : t.testBit j = decide (s / 2 % 2 = 1)) (h4 : f.testBit j = decide (s / 4 % 2 = 1)) (h8 : e.testBit j = decide (s / 8 % 2 = 1))
    (hb : ∀ b ∈ bs, 1 ≤ b ∧ b ≤ 8) (hss : ∀ b ∈ ss, 0 ≤ b ∧ b ≤ 8) (ha : alive.testBit j = true → 1 ≤ s) :
    (nextN alive o t f e bs ss).testBit j = if alive.testBit j = true then decide (((s : Int) - 1) ∈ ss) else decide ((s : Int) ∈ bs) := by
  have hn : (near9 o t f e).testBit j = decide (s ≠ 0) := by
    unfold near9
    rw [Nat.testBit_or, Nat.testBit_or, Nat.testBit_or, h1, h2, h4, h8]
    exact nearB s hs
  have hp : ∀ n, 1 ≤ n → n < 10 → (pick o t f e n).testBit j = decide (s = n) := fun n n1 n2 => by
    unfold pick
    rw [Nat.testBit_and, low4_bit, high3_bit, hn, h1, h2, h4, h8, ← nearB s hs]
    exact pickB s hs n n2 n1
  have pb : (picks o t f e (bs.map Int.toNat)).testBit j = decide ((s : Int) ∈ bs) := by
    rw [picks_bit, Bool.eq_iff_iff, decide_eq_true_iff, List.any_eq_true]
    constructor
    · rintro ⟨n, m, h⟩
      obtain ⟨b, mb, rfl⟩ := List.mem_map.mp m
      have := hb b mb
      rw [hp _ (by omega) (by omega)] at h
      have h := of_decide_eq_true h
      rw [show (s : Int) = b by omega]
      exact mb
    · intro m
      have := hb _ m
      refine ⟨s, List.mem_map.mpr ⟨_, m, by omega⟩, ?_⟩
      rw [hp _ (by omega) hs]
      exact decide_eq_true rfl
  have pss : (picks o t f e (ss.map fun n => n.toNat + 1)).testBit j = decide (((s : Int) - 1) ∈ ss) := by
    rw [picks_bit, Bool.eq_iff_iff, decide_eq_true_iff, List.any_eq_true]
    constructor
    · rintro ⟨n, m, h⟩
      obtain ⟨b, mb, rfl⟩ := List.mem_map.mp m
      have := hss b mb
      rw [hp _ (by omega) (by omega)] at h
      have h := of_decide_eq_true h
      rw [show (s : Int) - 1 = b by omega]
      exact mb
    · intro m
      have := hss _ m
      refine ⟨s, List.mem_map.mpr ⟨_, m, by omega⟩, ?_⟩
      rw [hp _ (by omega) hs]
      exact decide_eq_true rfl
  unfold nextN
  rw [Nat.testBit_or, Nat.testBit_and, Nat.testBit_and, Nat.testBit_xor, pb, pss, hn]
  cases hal : alive.testBit j with
  | true =>
    have := ha hal
    rw [decide_eq_true (show s ≠ 0 by omega), if_pos rfl]
    simp
  | false =>
    rw [if_neg (by decide)]
    by_cases z : s = 0
    · have nm : ¬ (s : Int) ∈ bs := fun m => by
        have := hb _ m
        omega
      rw [decide_eq_false nm]
      simp
    · rw [decide_eq_true z]
      simp
end
end My
namespace My
open PySem PySem.Spec PyProof.Rows L2 Vx
open TL
local macro_rules | `(tactic| k_invariant "new" ($n, $H:ident, $e:ident, $h:ident)) => `(tactic| (generalize hE : upd _ _ _ = $H; obtain ⟨$e:ident, $h:ident⟩ := gen_e hE $n; clear hE))
local macro_rules | `(tactic| k_places) => `(tactic| first
  | assumption
  | exact lst_of (by assumption)
  | exact tup_of (by assumption)
  | (refine getS (by assumption) ?_; k_places)
  | (refine Same.seq (by assumption) ?_; k_places)
  | (refine tupS (by assumption) ?_; k_places)
  | (refine lst_of ?_; k_places)
  | (refine tup_of ?_; k_places))
local macro_rules | `(tactic| k_subL) => `(tactic| first
  | k_places
  | solve_by_elim (maxDepth := 10) [getS, lst_of, tup_of, Same.seq, tupS])
local macro_rules | `(tactic| k_offL) => `(tactic| first
  | (show (0 : Int) < _; first | omega | decide)
  | (refine ⟨?_, ?_⟩ <;> first | omega | decide)
  | exact .inr ⟨by decide, by decide⟩
  | exact .inl ⟨by decide, by decide⟩
  | exact .inl ⟨by omega, by omega⟩
  | omega)
local macro_rules | `(tactic| k_clsL) => `(tactic| exact Nat.le_of_ble_eq_true rfl)
local macro_rules | `(tactic| k_upd) => `(tactic| simp only [L2.start, List.map_cons, List.map_nil, List.length_cons, List.length_nil, List.replicate_succ, List.replicate_zero, List.cons_append, List.nil_append, List.set_cons_zero, List.set_cons_succ])
section
variable {P : Program} {w : World} {K : PySem.W.Frag} {mg : Str → Option Value} {base : Heap}
/-! ### rings: their bits -/
theorem p_div {w r c : Nat} (hc : c < w) : (r * w + c) / w = r := by
  rw [Nat.add_comm, Nat.add_mul_div_right _ _ (by omega), Nat.div_eq_of_lt hc, Nat.zero_add]
theorem p_mod {w r c : Nat} (hc : c < w) : (r * w + c) % w = c := by
  rw [Nat.add_comm, Nat.add_mul_mod_self_right, Nat.mod_eq_of_lt hc]
theorem p_eq {w r c r' c' : Nat} (hc : c < w) (hc' : c' < w) : r * w + c = r' * w + c' ↔ r = r' ∧ c = c' := by
  constructor
  · intro e
    have e1 : (r * w + c) / w = (r' * w + c') / w := congrArg (· / w) e
    have e2 : (r * w + c) % w = (r' * w + c') % w := congrArg (· % w) e
    rw [p_div hc, p_div hc'] at e1
    rw [p_mod hc, p_mod hc'] at e2
    exact ⟨e1, e2⟩
  · rintro ⟨rfl, rfl⟩
    rfl
theorem p_lt {w r c h : Nat} (hc : c < w) : r * w + c < h * w ↔ r < h := by
  rw [← Nat.div_lt_iff_lt_mul (by omega), p_div hc]
theorem p_split (w p : Nat) (hw : 0 < w) : ∃ r c, c < w ∧ p = r * w + c := ⟨p / w, p % w, Nat.mod_lt _ hw, by rw [Nat.mul_comm]; exact (Nat.div_add_mod p w).symm⟩
def fullR (h w : Nat) : Nat := 2 ^ (h * w) - 1
def firstC (w : Nat) : Nat → Nat
  | 0 => 0
  | r + 1 => firstC w r ||| (1 <<< (r * w))
def lastC (h w : Nat) : Nat := (firstC w h <<< w) >>> 1
theorem full_at {h w r c : Nat} (hc : c < w) : (fullR h w).testBit (r * w + c) = decide (r < h) := by
  unfold fullR
  rw [Nat.testBit_two_pow_sub_one]
  exact decide_eq_decide.mpr (p_lt hc)
theorem first_at {w r c : Nat} (hc : c < w) : ∀ h, (firstC w h).testBit (r * w + c) = (decide (c = 0) && decide (r < h))
  | 0 => by simp [firstC]
  | h + 1 => by
    show (firstC w h ||| (1 <<< (h * w))).testBit (r * w + c) = _
    rw [Nat.testBit_or, first_at hc h, Nat.one_shiftLeft, Nat.testBit_two_pow]
    have e : (h * w = r * w + c) ↔ (r = h ∧ c = 0) := by
      have q := p_eq (w := w) (r := h) (c := 0) (r' := r) (c' := c) (by omega) hc
      rw [Nat.add_zero] at q
      rw [q]
      omega
    rw [Bool.eq_iff_iff]
    simp only [Bool.or_eq_true, Bool.and_eq_true, decide_eq_true_eq, e]
    omega
theorem last_at {h w r c : Nat} (hc : c < w) : (lastC h w).testBit (r * w + c) = (decide (c = w - 1) && decide (r < h)) := by
  unfold lastC
  rw [Nat.testBit_shiftRight, Nat.testBit_shiftLeft]
  by_cases e : c = w - 1
  · have e1 : 1 + (r * w + c) - w = r * w + 0 := by omega
    rw [e1, first_at (by omega), decide_eq_true (show 1 + (r * w + c) ≥ w by omega), decide_eq_true e]
    simp
  · rw [decide_eq_false e, Bool.false_and]
    cases r with
    | zero =>
      rw [decide_eq_false (by omega), Bool.false_and]
    | succ r =>
      have e1 : 1 + ((r + 1) * w + c) - w = r * w + (c + 1) := by
        rw [Nat.succ_mul]
        omega
      rw [e1, first_at (by omega), decide_eq_false (show ¬ c + 1 = 0 by omega), Bool.false_and, Bool.and_false]
def leftR (h w b : Nat) : Nat := ((b <<< 1) &&& (fullR h w ^^^ firstC w h)) ||| ((b >>> (w - 1)) &&& firstC w h)
def rightR (h w b : Nat) : Nat := ((b >>> 1) &&& (fullR h w ^^^ lastC h w)) ||| ((b <<< (w - 1)) &&& lastC h w)
def aboveR (h w b : Nat) : Nat := ((b <<< w) &&& fullR h w) ||| (b >>> ((h - 1) * w))
def belowR (h w b : Nat) : Nat := (b >>> w) ||| ((b <<< ((h - 1) * w)) &&& fullR h w)
def prv (n k : Nat) : Nat := (k + n - 1) % n
def nxt (n k : Nat) : Nat := (k + 1) % n
theorem prv_lt {n k : Nat} (h : 0 < n) : prv n k < n := Nat.mod_lt _ h
theorem nxt_lt {n k : Nat} (h : 0 < n) : nxt n k < n := Nat.mod_lt _ h
theorem prv_0 {n : Nat} (h : 0 < n) : prv n 0 = n - 1 := by
  unfold prv
  rw [Nat.zero_add, Nat.mod_eq_of_lt (by omega)]
theorem prv_s {n k : Nat} (h : k + 1 < n) : prv n (k + 1) = k := by
  unfold prv
  rw [show k + 1 + n - 1 = k + n by omega, Nat.add_mod_right, Nat.mod_eq_of_lt (by omega)]
theorem nxt_l {n : Nat} (h : 0 < n) : nxt n (n - 1) = 0 := by
  unfold nxt
  rw [show n - 1 + 1 = n by omega, Nat.mod_self]
theorem nxt_s {n k : Nat} (h : k + 1 < n) : nxt n k = k + 1 := Nat.mod_eq_of_lt h
theorem left_bit {h w r c b : Nat} (hr : r < h) (hc : c < w) : (leftR h w b).testBit (r * w + c) = b.testBit (r * w + prv w c) := by
  unfold leftR
  rw [Nat.testBit_or, Nat.testBit_and, Nat.testBit_and, Nat.testBit_xor, full_at hc, first_at hc, Nat.testBit_shiftLeft, Nat.testBit_shiftRight, decide_eq_true hr, Bool.and_true]
  cases c with
  | zero =>
    rw [prv_0 hc, show w - 1 + (r * w + 0) = r * w + (w - 1) by omega]
    simp
  | succ c =>
    rw [prv_s hc, show r * w + (c + 1) - 1 = r * w + c by omega, decide_eq_true (show r * w + (c + 1) ≥ 1 by omega)]
    simp
theorem right_bit {h w r c b : Nat} (hr : r < h) (hc : c < w) : (rightR h w b).testBit (r * w + c) = b.testBit (r * w + nxt w c) := by
  unfold rightR
  rw [Nat.testBit_or, Nat.testBit_and, Nat.testBit_and, Nat.testBit_xor, full_at hc, last_at hc, Nat.testBit_shiftLeft, Nat.testBit_shiftRight, decide_eq_true hr, Bool.and_true]
  by_cases e : c = w - 1
  · subst e
    rw [nxt_l (by omega), show r * w + (w - 1) - (w - 1) = r * w + 0 by omega, decide_eq_true (show r * w + (w - 1) ≥ w - 1 by omega)]
    simp
  · rw [nxt_s (by omega), show 1 + (r * w + c) = r * w + (c + 1) by omega, decide_eq_false e]
    simp
theorem fit_bit {h w r c b : Nat} (fb : b < 2 ^ (h * w)) (hr : h ≤ r) (hc : c < w) : b.testBit (r * w + c) = false :=
  Nat.testBit_lt_two_pow (Nat.lt_of_lt_of_le fb (Nat.pow_le_pow_right (by decide) (Nat.le_of_not_lt fun z => by have := (p_lt hc).mp z; omega)))
theorem above_bit {h w r c b : Nat} (fb : b < 2 ^ (h * w)) (hr : r < h) (hc : c < w) : (aboveR h w b).testBit (r * w + c) = b.testBit (prv h r * w + c) := by
  unfold aboveR
  rw [Nat.testBit_or, Nat.testBit_and, full_at hc, Nat.testBit_shiftLeft, Nat.testBit_shiftRight, decide_eq_true hr, Bool.and_true]
  cases r with
  | zero =>
    rw [prv_0 hr, Nat.zero_mul, Nat.zero_add, decide_eq_false (by omega)]
    simp
  | succ r =>
    rw [prv_s hr, show (r + 1) * w + c - w = r * w + c by rw [Nat.succ_mul]; omega, decide_eq_true (show (r + 1) * w + c ≥ w by rw [Nat.succ_mul]; omega)]
    have e : (h - 1) * w + ((r + 1) * w + c) = (h + r) * w + c := by
      rw [← Nat.add_assoc, ← Nat.add_mul]
      congr 2
      omega
    rw [e, fit_bit (r := h + r) fb (by omega) hc]
    simp
theorem below_bit {h w r c b : Nat} (fb : b < 2 ^ (h * w)) (hr : r < h) (hc : c < w) : (belowR h w b).testBit (r * w + c) = b.testBit (nxt h r * w + c) := by
  unfold belowR
  rw [Nat.testBit_or, Nat.testBit_and, full_at hc, Nat.testBit_shiftLeft, Nat.testBit_shiftRight, decide_eq_true hr, Bool.and_true]
  have e : w + (r * w + c) = (r + 1) * w + c := by
    rw [Nat.succ_mul]
    omega
  rw [e]
  by_cases l : r = h - 1
  · subst l
    rw [nxt_l (by omega), fit_bit fb (by omega) hc, show (h - 1) * w + c - (h - 1) * w = 0 * w + c by omega, decide_eq_true (show (h - 1) * w + c ≥ (h - 1) * w by omega)]
    simp
  · have lt : r * w + c < (h - 1) * w := (p_lt hc).mpr (by omega)
    rw [nxt_s (by omega), decide_eq_false (by omega)]
    simp
theorem left_out {h w r c b : Nat} (hr : h ≤ r) (hc : c < w) : (leftR h w b).testBit (r * w + c) = false := by
  unfold leftR
  rw [Nat.testBit_or, Nat.testBit_and, Nat.testBit_and, Nat.testBit_xor, full_at hc, first_at hc, decide_eq_false (show ¬ r < h by omega)]
  simp
theorem right_out {h w r c b : Nat} (hr : h ≤ r) (hc : c < w) : (rightR h w b).testBit (r * w + c) = false := by
  unfold rightR
  rw [Nat.testBit_or, Nat.testBit_and, Nat.testBit_and, Nat.testBit_xor, full_at hc, last_at hc, decide_eq_false (show ¬ r < h by omega)]
  simp
theorem above_out {h w r c b : Nat} (h0 : 0 < h) (fb : b < 2 ^ (h * w)) (hr : h ≤ r) (hc : c < w) : (aboveR h w b).testBit (r * w + c) = false := by
  unfold aboveR
  have e : (h - 1) * w + (r * w + c) = (h - 1 + r) * w + c := by
    rw [← Nat.add_assoc, ← Nat.add_mul]
  rw [Nat.testBit_or, Nat.testBit_and, full_at hc, Nat.testBit_shiftRight, e, fit_bit fb (by omega) hc, decide_eq_false (show ¬ r < h by omega)]
  simp
theorem below_out {h w r c b : Nat} (fb : b < 2 ^ (h * w)) (hr : h ≤ r) (hc : c < w) : (belowR h w b).testBit (r * w + c) = false := by
  unfold belowR
  have e : w + (r * w + c) = (r + 1) * w + c := by
    rw [Nat.succ_mul]
    omega
  rw [Nat.testBit_or, Nat.testBit_and, full_at hc, Nat.testBit_shiftRight, e, fit_bit fb (by omega) hc, decide_eq_false (show ¬ r < h by omega)]
  simp
theorem fit_of {h w b : Nat} (hw : 0 < w) (f : ∀ r c, h ≤ r → c < w → b.testBit (r * w + c) = false) : b < 2 ^ (h * w) := by
  refine Nat.lt_pow_two_of_testBit _ fun p hp => ?_
  obtain ⟨r, c, hc, rfl⟩ := p_split w p hw
  refine f r c ?_ hc
  exact Nat.le_of_not_lt fun z => by have := (p_lt hc).mpr z; omega
theorem ones_bit (l a r j : Nat) : (ones3 l a r).testBit j = oneB (l.testBit j) (a.testBit j) (r.testBit j) := by
  unfold ones3 oneB
  rw [Nat.testBit_xor, Nat.testBit_xor]
theorem twos_bit (l a r j : Nat) : (twos3 l a r).testBit j = twoB (l.testBit j) (a.testBit j) (r.testBit j) := by
  unfold twos3 twoB
  rw [Nat.testBit_or, Nat.testBit_and, Nat.testBit_and, Nat.testBit_xor]
def onesG (h w b : Nat) : Nat := ones3 (leftR h w b) b (rightR h w b)
def twosG (h w b : Nat) : Nat := twos3 (leftR h w b) b (rightR h w b)
theorem onesG_fit {h w b : Nat} (hw : 0 < w) (fb : b < 2 ^ (h * w)) : onesG h w b < 2 ^ (h * w) := fit_of hw fun r c hr hc => by
  unfold onesG
  rw [ones_bit, left_out hr hc, right_out hr hc, fit_bit fb hr hc]
  rfl
theorem twosG_fit {h w b : Nat} (hw : 0 < w) (fb : b < 2 ^ (h * w)) : twosG h w b < 2 ^ (h * w) := fit_of hw fun r c hr hc => by
  unfold twosG
  rw [twos_bit, left_out hr hc, right_out hr hc, fit_bit fb hr hc]
  rfl
def afterN (h w : Nat) (bs ss : List Int) (b : Nat) : Nat :=
  nextN b (one9 (aboveR h w (onesG h w b)) (onesG h w b) (belowR h w (onesG h w b)))
    (two9 (aboveR h w (onesG h w b)) (aboveR h w (twosG h w b)) (onesG h w b) (twosG h w b) (belowR h w (onesG h w b)) (belowR h w (twosG h w b)))
    (four9 (aboveR h w (onesG h w b)) (aboveR h w (twosG h w b)) (onesG h w b) (twosG h w b) (belowR h w (onesG h w b)) (belowR h w (twosG h w b)))
    (eight9 (aboveR h w (onesG h w b)) (aboveR h w (twosG h w b)) (onesG h w b) (twosG h w b) (belowR h w (onesG h w b)) (belowR h w (twosG h w b))) bs ss
def nbR (h w b r c : Nat) : Nat :=
  (b.testBit (prv h r * w + prv w c)).toNat + (b.testBit (prv h r * w + c)).toNat + (b.testBit (prv h r * w + nxt w c)).toNat + (b.testBit (r * w + prv w c)).toNat + (b.testBit (r * w + nxt w c)).toNat +
  (b.testBit (nxt h r * w + prv w c)).toNat + (b.testBit (nxt h r * w + c)).toNat + (b.testBit (nxt h r * w + nxt w c)).toNat
def liveR (h w : Nat) (bs ss : List Int) (b r c : Nat) : Bool := if b.testBit (r * w + c) = true then decide ((nbR h w b r c : Int) ∈ ss) else decide ((nbR h w b r c : Int) ∈ bs)
theorem after_bit {h w r c b : Nat} {bs ss : List Int} (hb : ∀ b ∈ bs, 1 ≤ b ∧ b ≤ 8) (hss : ∀ b ∈ ss, 0 ≤ b ∧ b ≤ 8) (hw : 0 < w) (fb : b < 2 ^ (h * w)) (hr : r < h) (hc : c < w) :
    (afterN h w bs ss b).testBit (r * w + c) = liveR h w bs ss b r c := by
  have h0 : 0 < h := by omega
  have fo := onesG_fit hw fb
  have ft := twosG_fit hw fb
  have o : ∀ r' < h, (onesG h w b).testBit (r' * w + c) = oneB (b.testBit (r' * w + prv w c)) (b.testBit (r' * w + c)) (b.testBit (r' * w + nxt w c)) := fun r' h' => by
    unfold onesG
    rw [ones_bit, left_bit h' hc, right_bit h' hc]
  have t : ∀ r' < h, (twosG h w b).testBit (r' * w + c) = twoB (b.testBit (r' * w + prv w c)) (b.testBit (r' * w + c)) (b.testBit (r' * w + nxt w c)) := fun r' h' => by
    unfold twosG
    rw [twos_bit, left_bit h' hc, right_bit h' hc]
  have a1 := (above_bit fo hr hc).trans (o _ (prv_lt h0))
  have a2 := (above_bit ft hr hc).trans (t _ (prv_lt h0))
  have b1 := o r hr
  have b2 := t r hr
  have c1 := (below_bit fo hr hc).trans (o _ (nxt_lt h0))
  have c2 := (below_bit ft hr hc).trans (t _ (nxt_lt h0))
  have q := bits9 (b.testBit (prv h r * w + prv w c)) (b.testBit (prv h r * w + c)) (b.testBit (prv h r * w + nxt w c)) (b.testBit (r * w + prv w c)) (b.testBit (r * w + c)) (b.testBit (r * w + nxt w c)) (b.testBit (nxt h r * w + prv w c)) (b.testBit (nxt h r * w + c)) (b.testBit (nxt h r * w + nxt w c))
  have e9 : sum9 (b.testBit (prv h r * w + prv w c)) (b.testBit (prv h r * w + c)) (b.testBit (prv h r * w + nxt w c)) (b.testBit (r * w + prv w c)) (b.testBit (r * w + c)) (b.testBit (r * w + nxt w c)) (b.testBit (nxt h r * w + prv w c)) (b.testBit (nxt h r * w + c)) (b.testBit (nxt h r * w + nxt w c)) = nbR h w b r c + (b.testBit (r * w + c)).toNat := by
    unfold sum9 nbR
    omega
  rw [e9] at q
  obtain ⟨q1, q2, q4, q8, ql⟩ := q
  unfold afterN
  rw [nextN_bit ql ?_ ?_ ?_ ?_ hb hss ?_]
  · unfold liveR
    by_cases z : b.testBit (r * w + c) = true
    · rw [if_pos z, if_pos z, z, show ((nbR h w b r c + true.toNat : Nat) : Int) - 1 = (nbR h w b r c : Int) by show ((nbR h w b r c + 1 : Nat) : Int) - 1 = _; omega]
    · have z' : b.testBit (r * w + c) = false := by simpa using z
      rw [if_neg z, if_neg z, z']
      rfl
  · rw [← q1]
    unfold one9
    simp only [Nat.testBit_xor, a1, b1, c1]
  · rw [← q2]
    unfold two9 car9 carB
    simp only [Nat.testBit_xor, Nat.testBit_or, Nat.testBit_and, a1, b1, c1, a2, b2, c2]
  · rw [← q4]
    unfold four9 car9 carB
    simp only [Nat.testBit_xor, Nat.testBit_or, Nat.testBit_and, a1, b1, c1, a2, b2, c2]
  · rw [← q8]
    unfold eight9 car9 carB
    simp only [Nat.testBit_xor, Nat.testBit_or, Nat.testBit_and, a1, b1, c1, a2, b2, c2]
  · intro z
    rw [z]
    show 1 ≤ _ + 1
    omega
theorem after_fit {h w b : Nat} {bs ss : List Int} (hb : ∀ b ∈ bs, 1 ≤ b ∧ b ≤ 8) (hss : ∀ b ∈ ss, 0 ≤ b ∧ b ≤ 8) (hw : 0 < w) (h0 : 0 < h) (fb : b < 2 ^ (h * w)) : afterN h w bs ss b < 2 ^ (h * w) := fit_of hw fun r c hr hc => by
  have fo := onesG_fit hw fb
  have ft := twosG_fit hw fb
  have a1 := above_out h0 fo hr hc
  have a2 := above_out h0 ft hr hc
  have b1 := fit_bit fo hr hc
  have b2 := fit_bit ft hr hc
  have c1 := below_out fo hr hc
  have c2 := below_out ft hr hc
  have z := fit_bit fb hr hc
  unfold afterN
  rw [nextN_bit (s := 0) (by decide) ?_ ?_ ?_ ?_ hb hss ?_]
  · rw [z, if_neg (by decide)]
    exact decide_eq_false fun m => by have := hb _ m; omega
  · unfold one9
    simp [Nat.testBit_xor, a1, b1, c1]
  · unfold two9 car9
    simp [Nat.testBit_xor, Nat.testBit_or, Nat.testBit_and, a1, b1, c1, a2, b2, c2]
  · unfold four9 car9
    simp [Nat.testBit_xor, Nat.testBit_or, Nat.testBit_and, a1, b1, c1, a2, b2, c2]
  · unfold eight9 car9
    simp [Nat.testBit_xor, Nat.testBit_or, Nat.testBit_and, a1, b1, c1, a2, b2, c2]
  · rw [z]
    intro h
    cases h
theorem after_zero {h w : Nat} {bs ss : List Int} (hb : ∀ b ∈ bs, 1 ≤ b ∧ b ≤ 8) (hss : ∀ b ∈ ss, 0 ≤ b ∧ b ≤ 8) (hw : 0 < w) (h0 : 0 < h) : afterN h w bs ss 0 = 0 := by
  have f0 : 0 < 2 ^ (h * w) := Nat.pow_pos (by decide)
  refine Nat.eq_of_testBit_eq fun p => ?_
  obtain ⟨r, c, hc, rfl⟩ := p_split w p hw
  rw [Nat.zero_testBit]
  by_cases hr : r < h
  · rw [after_bit hb hss hw f0 hr hc]
    unfold liveR nbR
    simp only [Nat.zero_testBit]
    rw [if_neg (by decide)]
    exact decide_eq_false fun m => by have := hb _ m; simp at this
  · exact fit_bit (after_fit hb hss hw h0 f0) (by omega) hc
/-! ### the cells of a number -/
def atW (w j : Nat) : Pr := (((j / w : Nat) : Int), ((j % w : Nat) : Int))
def cellsW (h w b : Nat) : List Pr := (bitsB (h * w) b).map (atW w)
theorem atW_at {w r c : Nat} (hc : c < w) : atW w (r * w + c) = ((r : Int), (c : Int)) := by
  unfold atW
  rw [p_div hc, p_mod hc]
theorem atW_lt {w a b : Nat} (h : a < b) : ltP (atW w a) (atW w b) := by
  refine ltP_iff.mpr ?_
  unfold atW
  dsimp only
  have d : a / w ≤ b / w := Nat.div_le_div_right (by omega)
  by_cases e : a / w = b / w
  · refine .inr ⟨by rw [e], ?_⟩
    have ea := Nat.div_add_mod a w
    have eb := Nat.div_add_mod b w
    rw [e] at ea
    omega
  · exact .inl (by omega)
theorem cellsW_asc (h w b : Nat) : (cellsW h w b).Pairwise ltP := List.pairwise_map.mpr ((List.Pairwise.filter _ List.pairwise_lt_range).imp fun {x y} l => atW_lt l)
theorem mem_cellsW {h w b r c : Nat} (hr : r < h) (hc : c < w) : ((r : Int), (c : Int)) ∈ cellsW h w b ↔ b.testBit (r * w + c) = true := by
  unfold cellsW
  rw [List.mem_map]
  constructor
  · rintro ⟨j, m, e⟩
    obtain ⟨r', c', hc', rfl⟩ := p_split w j (by omega)
    rw [atW_at hc'] at e
    have e1 : r' = r := by have := congrArg Prod.fst e; dsimp only at this; omega
    have e2 : c' = c := by have := congrArg Prod.snd e; dsimp only at this; omega
    subst e1 e2
    exact (mem_bitsB.mp m).2
  · intro t
    exact ⟨r * w + c, mem_bitsB.mpr ⟨(p_lt hc).mpr hr, t⟩, atW_at hc⟩
theorem cellsW_in {h w b : Nat} (hw : 0 < w) {x : Pr} (m : x ∈ cellsW h w b) : ∃ r c : Nat, r < h ∧ c < w ∧ x = ((r : Int), (c : Int)) := by
  obtain ⟨j, mj, rfl⟩ := List.mem_map.mp m
  obtain ⟨r, c, hc, rfl⟩ := p_split w j hw
  exact ⟨r, c, (p_lt hc).mp (mem_bitsB.mp mj).1, hc, atW_at hc⟩
theorem cellsW_inj {h w a b : Nat} (hw : 0 < w) (fa : a < 2 ^ (h * w)) (fb : b < 2 ^ (h * w)) (e : cellsW h w a = cellsW h w b) : a = b := by
  refine Nat.eq_of_testBit_eq fun p => ?_
  obtain ⟨r, c, hc, rfl⟩ := p_split w p hw
  by_cases hr : r < h
  · rw [Bool.eq_iff_iff, ← mem_cellsW hr hc, ← mem_cellsW hr hc, e]
  · rw [fit_bit fa (by omega) hc, fit_bit fb (by omega) hc]
/-- where a cell lies in the number -/
def posR (h w : Nat) (x : Pr) : Nat := (x.1 % (h : Int)).toNat * w + (x.2 % (w : Int)).toNat
def BitsOf (h w b : Nat) (ps : List Pr) : Prop := ∀ j, b.testBit j = true ↔ ∃ x ∈ ps, posR h w x = j
theorem posR_in {h w : Nat} {x : Pr} (h0 : 0 < h) (hw : 0 < w) : posR h w x < h * w := by
  unfold posR
  have a1 := Int.emod_nonneg x.1 (show (h : Int) ≠ 0 by omega)
  have a2 := Int.emod_lt_of_pos x.1 (show (0 : Int) < h by omega)
  have b1 := Int.emod_nonneg x.2 (show (w : Int) ≠ 0 by omega)
  have b2 := Int.emod_lt_of_pos x.2 (show (0 : Int) < w by omega)
  exact (p_lt (by omega)).mpr (by omega)
theorem BitsOf.fit {h w b : Nat} {ps : List Pr} (h0 : 0 < h) (hw : 0 < w) (e : BitsOf h w b ps) : b < 2 ^ (h * w) := by
  refine Nat.lt_pow_two_of_testBit _ fun p hp => ?_
  refine Bool.eq_false_iff.mpr fun t => ?_
  obtain ⟨x, _, ex⟩ := (e p).mp t
  have := posR_in (x := x) h0 hw
  omega
theorem BitsOf.uniq {h w b b' : Nat} {ps ps' : List Pr} (e : BitsOf h w b ps) (e' : BitsOf h w b' ps') (m : ∀ x, x ∈ ps ↔ x ∈ ps') : b = b' := by
  refine Nat.eq_of_testBit_eq fun p => ?_
  rw [Bool.eq_iff_iff, e p, e' p]
  exact ⟨fun ⟨x, mx, ex⟩ => ⟨x, (m x).mp mx, ex⟩, fun ⟨x, mx, ex⟩ => ⟨x, (m x).mpr mx, ex⟩⟩
theorem posR_at {h w r c : Nat} (hr : r < h) (hc : c < w) : posR h w ((r : Int), (c : Int)) = r * w + c := by
  unfold posR
  dsimp only
  rw [Int.emod_eq_of_lt (by omega) (by omega), Int.emod_eq_of_lt (by omega) (by omega), Int.toNat_natCast, Int.toNat_natCast]
theorem BitsOf.cells {h w b : Nat} {ps : List Pr} (hw : 0 < w) (e : BitsOf h w b ps) (pw : ps.Pairwise ltP) (box : ∀ x ∈ ps, 0 ≤ x.1 ∧ x.1 < (h : Int) ∧ 0 ≤ x.2 ∧ x.2 < (w : Int)) : cellsW h w b = ps := by
  have nat : ∀ x ∈ ps, ∃ r c : Nat, r < h ∧ c < w ∧ x = ((r : Int), (c : Int)) := fun x m => by
    obtain ⟨b1, b2, b3, b4⟩ := box x m
    refine ⟨x.1.toNat, x.2.toNat, by omega, by omega, Prod.ext ?_ ?_⟩ <;> dsimp only <;> omega
  refine ascP_eq (cellsW_asc h w b) pw fun x => ?_
  constructor
  · intro m
    obtain ⟨r, c, hr, hc, rfl⟩ := cellsW_in hw m
    obtain ⟨y, my, ey⟩ := (e _).mp ((mem_cellsW hr hc).mp m)
    obtain ⟨r', c', hr', hc', rfl⟩ := nat y my
    rw [posR_at hr' hc', p_eq hc' hc] at ey
    rw [← ey.1, ← ey.2]
    exact my
  · intro m
    obtain ⟨r, c, hr, hc, rfl⟩ := nat x m
    exact (mem_cellsW hr hc).mpr ((e _).mpr ⟨_, m, posR_at hr hc⟩)
end
end My
namespace My
open PySem PySem.Spec PyProof.Rows L2 Vx
open TL
local macro_rules | `(tactic| k_invariant "new" ($n, $H:ident, $e:ident, $h:ident)) => `(tactic| (generalize hE : upd _ _ _ = $H; obtain ⟨$e:ident, $h:ident⟩ := gen_e hE $n; clear hE))
local macro_rules | `(tactic| k_places) => `(tactic| first
  | assumption
  | exact lst_of (by assumption)
  | exact tup_of (by assumption)
  | (refine getS (by assumption) ?_; k_places)
  | (refine Same.seq (by assumption) ?_; k_places)
  | (refine tupS (by assumption) ?_; k_places)
  | (refine lst_of ?_; k_places)
  | (refine tup_of ?_; k_places))
local macro_rules | `(tactic| k_subL) => `(tactic| first
  | k_places
  | solve_by_elim (maxDepth := 10) [getS, lst_of, tup_of, Same.seq, tupS])
local macro_rules | `(tactic| k_offL) => `(tactic| first
  | (show (0 : Int) < _; first | omega | decide)
  | (refine ⟨?_, ?_⟩ <;> first | omega | decide)
  | exact .inr ⟨by decide, by decide⟩
  | exact .inl ⟨by decide, by decide⟩
  | exact .inl ⟨by omega, by omega⟩
  | omega)
local macro_rules | `(tactic| k_clsL) => `(tactic| exact Nat.le_of_ble_eq_true rfl)
local macro_rules | `(tactic| k_upd) => `(tactic| simp only [L2.start, List.map_cons, List.map_nil, List.length_cons, List.length_nil, List.replicate_succ, List.replicate_zero, List.cons_append, List.nil_append, List.set_cons_zero, List.set_cons_succ])
section
variable {P : Program} {w : World} {K : PySem.W.Frag} {mg : Str → Option Value} {base : Heap}
/-! ### the object -/
theorem tru0 {K : PySem.W.Frag} {H : Hp} {n : Nat} (h : n = 0) : TruV K (.int ((n : Nat) : Int)) H false := by
  subst h
  rfl
theorem tru1 {K : PySem.W.Frag} {H : Hp} {n : Nat} (h : n ≠ 0) : TruV K (.int ((n : Nat) : Int)) H true := by
  show true = (((n : Nat) : Int) != 0)
  have : ((n : Nat) : Int) ≠ 0 := by omega
  exact (bne_iff_ne.mpr this).symm
def rgf (ru : Addr) (h w : Nat) : List (Str × V) := putF "_last_column" (.int (lastC h w : Nat)) (putF "_first_column" (.int (firstC w h : Nat)) (putF "_full" (.int (fullR h w : Nat)) (putF "_width" (.int (w : Int)) (putF "_height" (.int (h : Int)) (putF "_rule" (.ref ru) [])))))
def RgAt (C : Addr) (H : Hp) (rg : Addr) (h w : Nat) : Prop := ∃ dx ru, H rg = some (.ins C dx (rgf ru h w))
def RingIs (C CR : Addr) (H : Hp) (rg : Addr) (bs ss : List Int) (h w : Nat) : Prop := ∃ dx ru, H rg = some (.ins C dx (rgf ru h w)) ∧ RuleAt CR H ru bs ss
theorem RgAt.up {C : Addr} {H H' : Hp} {rg : Addr} {h w : Nat} (e : Same H H') (g : RgAt C H rg h w) : RgAt C H' rg h w := by
  obtain ⟨dx, ru, g⟩ := g
  exact ⟨dx, ru, e _ _ g⟩
theorem RingIs.up {C CR : Addr} {H H' : Hp} {rg : Addr} {bs ss : List Int} {h w : Nat} (e : Same H H') (g : RingIs C CR H rg bs ss h w) : RingIs C CR H' rg bs ss h w := by
  obtain ⟨dx, ru, g, r⟩ := g
  exact ⟨dx, ru, e _ _ g, r.up e⟩
theorem RingIs.at {C CR : Addr} {H : Hp} {rg : Addr} {bs ss : List Int} {h w : Nat} (g : RingIs C CR H rg bs ss h w) : RgAt C H rg h w := by
  obtain ⟨dx, ru, g, r⟩ := g
  exact ⟨dx, ru, g⟩
theorem full_int (k : Nat) : ((1 <<< k : Nat) : Int) - 1 = ((2 ^ k - 1 : Nat) : Int) := by
  have := Nat.pow_pos (n := k) (show 0 < 2 by decide)
  rw [Nat.one_shiftLeft]
  omega
theorem first_lt {w : Nat} : ∀ h, firstC w h < 2 ^ (h * w + 1)
  | 0 => by simp [firstC]
  | h + 1 => by
    show firstC w h ||| (1 <<< (h * w)) < _
    refine Nat.or_lt_two_pow (Nat.lt_of_lt_of_le (first_lt h) (Nat.pow_le_pow_right (by decide) (Nat.add_le_add_right (Nat.mul_le_mul_right _ (by omega)) 1))) ?_
    rw [Nat.one_shiftLeft]
    exact Nat.pow_lt_pow_right (by decide) (by rw [Nat.succ_mul]; omega)
theorem small_hw {h w : Nat} (h1 : h ≤ 100) (w1 : w ≤ 100) : h * w ≤ 10000 := Nat.mul_le_mul h1 w1
def sp_Ring_init (C : Addr) : Sp := fun vs H Q _ => ∃ (H0 : Hp) (rg ru dx : Addr) (h w : Nat), vs = [.ref rg, .ref ru, .int (h : Int), .int (w : Int)] ∧ h ≤ 100 ∧ w ≤ 100 ∧ Same H0 H ∧ H0 rg = none ∧ H rg = some (.ins C dx []) ∧
  ∀ H', Same H0 H' → (∃ dx', H' rg = some (.ins C dx' (rgf ru h w))) → Q .non H'
theorem ok_Ring_init (T : Txt K mg) : FnOk P w K mg base CX0 1 T.f_Ring_init T.d_Ring_init ["self", "rule", "height", "width"] (sp_Ring_init T.C_Ring) := by
  refine T.F_Ring_init.ok sc_Ring_init (fun vs H Q E h => ?_) (fun cdv A outer s H vs Q E hr h => ?_)
  · obtain ⟨_, _, _, _, _, _, rfl, _⟩ := h
    rfl
  · obtain ⟨H0, rg, ru, dx, h, w, rfl, h1, w1, s0, n0, ho, q⟩ := h
    have hw := small_hw h1 w1
    refine ⟨_, (pss_cons (ps_fld (pv 0) (pv 1) rfl)
      (pss_cons (ps_fld (pv 0) (pv 2) rfl)
      (pss_cons (ps_fld (pv 0) (pv 3) rfl)
      (pss_cons (ps_fld (pv 0) (pe_op op_sub (pe_op op_shlNN pe_int (pe_op op_mul (pv 2) (pv 3))) pe_int) rfl)
      (pss_cons (ps_fld (pv 0) pe_int rfl)
      (pss_cons (ps_for PassesOwn.never rfl (pi_range1 (by rfl) T.z_range (pa_cons (pv 2) pa_nil)) (pg_name (i := 4) sc_Ring_init.nd rfl (.inl rfl))
      (pss_one (ps_fldaug (pv 0) (pe_op op_shlNN pe_int (pe_op op_mul (pv 4) (pv 3))) ip_orNN)))
      (pss_one (ps_fld (pv 0) (pe_op op_shrNN (pe_op op_shlNN (pe_fld (pv 0) rfl) (pv 3)) pe_int) rfl)))))))), ?_⟩
    k_upd
    have next : ∀ {H1 : Hp} {o : HO}, Same H0 H1 → Same H0 (upd H1 rg o) := fun s => mutS s n0
    refine ⟨_, rfl, _, rfl, rg, T.C_Ring, dx, [], rfl, ho, T.cl_Ring, T.na_Ring__rule, (by show 0 < 1000; decide), ?_⟩
    have s1 := next (o := .ins T.C_Ring dx (putF "_rule" (.ref ru) [])) s0
    have g1 : upd H rg (.ins T.C_Ring dx (putF "_rule" (.ref ru) [])) rg = some (.ins T.C_Ring dx (putF "_rule" (.ref ru) [])) := upd_same
    generalize upd H rg (.ins T.C_Ring dx (putF "_rule" (.ref ru) [])) = H1 at s1 g1
    refine ⟨_, rfl, _, rfl, rg, T.C_Ring, dx, _, rfl, g1, T.cl_Ring, T.na_Ring__height, (by show 1 < 1000; decide), ?_⟩
    have s2 := next (o := .ins T.C_Ring dx (putF "_height" (.int (h : Int)) (putF "_rule" (.ref ru) []))) s1
    have g2 : upd H1 rg (.ins T.C_Ring dx (putF "_height" (.int (h : Int)) (putF "_rule" (.ref ru) []))) rg = some _ := upd_same
    generalize upd H1 rg (.ins T.C_Ring dx (putF "_height" (.int (h : Int)) (putF "_rule" (.ref ru) []))) = H2 at s2 g2
    refine ⟨_, rfl, _, rfl, rg, T.C_Ring, dx, _, rfl, g2, T.cl_Ring, T.na_Ring__width, (by show 2 < 1000; decide), ?_⟩
    have s3 := next (o := .ins T.C_Ring dx (putF "_width" (.int (w : Int)) (putF "_height" (.int (h : Int)) (putF "_rule" (.ref ru) [])))) s2
    have g3 : upd H2 rg (.ins T.C_Ring dx (putF "_width" (.int (w : Int)) (putF "_height" (.int (h : Int)) (putF "_rule" (.ref ru) [])))) rg = some _ := upd_same
    generalize upd H2 rg (.ins T.C_Ring dx (putF "_width" (.int (w : Int)) (putF "_height" (.int (h : Int)) (putF "_rule" (.ref ru) [])))) = H3 at s3 g3
    refine ⟨_, rfl, _, rfl, _, _, rfl, rfl, .inl ⟨by omega, by omega⟩, 1, h * w, 1, rfl, by dsimp only; rw [Int.natCast_mul], by decide, by omega, _, _, rfl, rfl, ?_⟩
    dsimp only
    rw [full_int, show 2 ^ (h * w) - 1 = fullR h w from rfl]
    refine ⟨_, rfl, rg, T.C_Ring, dx, _, rfl, g3, T.cl_Ring, T.na_Ring__full, (by show 3 < 1000; decide), ?_⟩
    have s4 := next (o := .ins T.C_Ring dx (putF "_full" (.int (fullR h w : Nat)) (putF "_width" (.int (w : Int)) (putF "_height" (.int (h : Int)) (putF "_rule" (.ref ru) []))))) s3
    have g4 : upd H3 rg (.ins T.C_Ring dx (putF "_full" (.int (fullR h w : Nat)) (putF "_width" (.int (w : Int)) (putF "_height" (.int (h : Int)) (putF "_rule" (.ref ru) []))))) rg = some _ := upd_same
    generalize upd H3 rg (.ins T.C_Ring dx (putF "_full" (.int (fullR h w : Nat)) (putF "_width" (.int (w : Int)) (putF "_height" (.int (h : Int)) (putF "_rule" (.ref ru) []))))) = H4 at s4 g4
    refine ⟨_, rfl, rg, T.C_Ring, dx, _, rfl, g4, T.cl_Ring, T.na_Ring__first_column, (by show 4 < 1000; decide), ?_⟩
    refine ⟨_, rfl, _, rfl, by omega, by omega, for_range (lo := 0) (n := h) (fun i σ H' => ∃ v : Option V, σ = [some (.ref rg), some (.ref ru), some (.int (h : Int)), some (.int (w : Int)), v] ∧ Same H0 H' ∧
      H' rg = some (.ins T.C_Ring dx (putF "_first_column" (.int (firstC w i : Nat)) (putF "_full" (.int (fullR h w : Nat)) (putF "_width" (.int (w : Int)) (putF "_height" (.int (h : Int)) (putF "_rule" (.ref ru) []))))))) ?_ ?_ ?_⟩
    · exact ⟨_, rfl, next s4, upd_same⟩
    · rintro i σ H' hi ⟨v, rfl, sm, go⟩
      have iw := small_hw (show i ≤ 100 by omega) w1
      refine ⟨_, rfl, rg, T.C_Ring, dx, _, _, rfl, go, T.cl_Ring, T.na_Ring__first_column, rfl, _, rfl, _, rfl, _, _, rfl, rfl, .inl ⟨by omega, by omega⟩, 1, i * w, 1, rfl, by dsimp only; rw [Int.zero_add, Int.natCast_mul], by decide, by omega, _, _, rfl, rfl, dx, _, go, (by show 5 < 1000; decide), ?_⟩
      exact ⟨_, rfl, next sm, upd_same⟩
    · rintro σ H' ⟨v, rfl, sm, go⟩
      refine ⟨_, rfl, rg, T.C_Ring, dx, _, _, rfl, go, T.cl_Ring, T.na_Ring__first_column, rfl, _, rfl, firstC w h, w, h * w + 1, rfl, rfl, first_lt h, by omega, _, 1, rfl, rfl, ?_⟩
      refine ⟨_, rfl, rg, T.C_Ring, dx, _, rfl, go, T.cl_Ring, T.na_Ring__last_column, (by show 5 < 1000; decide), ?_⟩
      exact q _ (next sm) ⟨dx, upd_same⟩
/-! ### its methods -/
def sp_Ring_bits (C : Addr) : Sp := fun vs H Q _ => ∃ (rg l : Addr) (h w : Nat) (ps : List Pr), vs = [.ref rg, .ref l] ∧ 0 < h ∧ 0 < w ∧ h ≤ 100 ∧ w ≤ 100 ∧ RgAt C H rg h w ∧ Cells H l ps ∧
  ∀ B : Nat, BitsOf h w B ps → Q (.int (B : Int)) H
theorem ok_Ring_bits (T : Txt K mg) : FnOk P w K mg base CX0 1 T.f_Ring_bits T.d_Ring_bits ["self", "cells"] (sp_Ring_bits T.C_Ring) := by
  refine T.F_Ring_bits.ok sc_Ring_bits (fun vs H Q E h => ?_) (fun cdv A outer s H vs Q E hr h => ?_)
  · obtain ⟨_, _, _, _, _, rfl, _⟩ := h
    rfl
  · obtain ⟨rg, l, h, w, ps, rfl, h0, w0, h1, w1, ⟨dx, ru, ho⟩, hC, q⟩ := h
    have hw := small_hw h1 w1
    refine ⟨_, (pss_cons (ps_set (i := 2) sc_Ring_bits.nd rfl (.inl rfl) pe_int)
      (pss_cons (ps_for PassesOwn.never rfl (pi_list (pv 1)) (pg_tupK (K := K) (n := 2) rfl rfl (pgs_cons (pg_name (i := 3) sc_Ring_bits.nd rfl (.inl rfl)) (pgs_cons (pg_name (i := 4) sc_Ring_bits.nd rfl (.inl rfl)) pgs_nil)))
      (pss_one (ps_aug (i := 2) sc_Ring_bits.nd rfl (.inl rfl) (pe_op op_shlNN pe_int (pe_op op_add (pe_op op_mul (pe_op op_mod (pv 3) (pe_fld (pv 0) rfl)) (pe_fld (pv 0) rfl)) (pe_op op_mod (pv 4) (pe_fld (pv 0) rfl)))) ip_orNN)))
      (pss_one (ps_ret (pv 2))))), ?_⟩
    k_upd
    obtain ⟨ts, hl, ht, ets⟩ := id hC
    have lts : ts.length = ps.length := by rw [← ets, List.length_map]
    refine ⟨_, rfl, l, rfl, ⟨_, lst_of hl⟩, ?_⟩
    refine for_list (K := K) (a := l) (xs := ts.map fun t => V.ref t.1) (fun i σ H' => H' = H ∧ ∃ (B : Nat) (x3 x4 : Option V), σ = [some (.ref rg), some (.ref l), some (.int (B : Int)), x3, x4] ∧ BitsOf h w B (ps.take i))
      ⟨rfl, 0, _, _, rfl, fun j => by simp⟩ (fun i σ H' _ p => by rw [p.1]; exact lst_of hl) ?_ ?_
    · rintro i x σ H' hi ⟨rfl, B, x3, x4, rfl, hB⟩
      obtain ⟨t, mt, rfl, hx⟩ := item_cells (H := H') hi rfl
      rw [ets] at hx
      have ht' := ht t mt
      obtain ⟨⟨ta, row, col⟩, ht''⟩ : ∃ t' : Addr × Pr, t' = t := ⟨t, rfl⟩
      subst ht''
      dsimp only at ht' hx
      have a1 := Int.emod_nonneg row (show (h : Int) ≠ 0 by omega)
      have a2 := Int.emod_lt_of_pos row (show (0 : Int) < h by omega)
      have b1 := Int.emod_nonneg col (show (w : Int) ≠ 0 by omega)
      have b2 := Int.emod_lt_of_pos col (show (0 : Int) < w by omega)
      have pl := posR_in (x := (row, col)) h0 w0
      have ep : row % (h : Int) * (w : Int) + col % (w : Int) = ((posR h w (row, col) : Nat) : Int) := by
        unfold posR
        rw [Int.natCast_add, Int.natCast_mul, Int.toNat_of_nonneg a1, Int.toNat_of_nonneg b1]
      refine ⟨ta, _, rfl, tup_of ht', rfl, _, _, rfl, _, _, rfl, rfl, ?_⟩
      k_upd
      refine ⟨_, rfl, _, rfl, _, rfl, rg, _, _, _, _, rfl, ho, T.cl_Ring, T.na_Ring__height, rfl, _, _, rfl, rfl, by omega, _, rfl, rg, _, _, _, _, rfl, ho, T.cl_Ring, T.na_Ring__width, rfl, _, _, rfl, rfl, .inl ⟨by omega, by omega⟩, ?_⟩
      refine ⟨_, rfl, _, rfl, rg, _, _, _, _, rfl, ho, T.cl_Ring, T.na_Ring__width, rfl, _, _, rfl, rfl, by omega, _, _, rfl, rfl, 1, posR h w (row, col), 1, rfl, ?_, by decide, by omega, B, _, rfl, rfl, ?_⟩
      · dsimp only
        rw [ep]
      refine ⟨rfl, _, _, _, rfl, fun j => ?_⟩
      rw [Nat.testBit_or, Nat.one_shiftLeft, Nat.testBit_two_pow, Bool.or_eq_true, hB j, decide_eq_true_iff, take_next hx]
      constructor
      · rintro (⟨x, m, e⟩ | e)
        · exact ⟨x, List.mem_append.mpr (.inl m), e⟩
        · exact ⟨_, List.mem_append.mpr (.inr (List.mem_singleton.mpr rfl)), e⟩
      · rintro ⟨x, m, e⟩
        rcases List.mem_append.mp m with m | m
        · exact .inl ⟨x, m, e⟩
        · rw [List.mem_singleton.mp m] at e
          exact .inr e
    · rintro σ H' ⟨rfl, B, x3, x4, rfl, hB⟩
      rw [List.length_map, List.take_of_length_le (by omega)] at hB
      exact ⟨_, rfl, q B hB⟩
def sp_Ring_cells (C : Addr) : Sp := fun vs H Q _ => ∃ (rg : Addr) (h w b : Nat), vs = [.ref rg, .int (b : Int)] ∧ 0 < w ∧ h ≤ 100 ∧ w ≤ 100 ∧ b < 2 ^ (h * w) ∧ RgAt C H rg h w ∧
  ∀ (H' : Hp) (p : Addr), H p = none → Same H H' → Cells H' p (cellsW h w b) → Q (.ref p) H'
theorem ok_Ring_cells (T : Txt K mg) : FnOk P w K mg base CX0 1 T.f_Ring_cells T.d_Ring_cells ["self", "bits"] (sp_Ring_cells T.C_Ring) := by
  refine T.F_Ring_cells.ok sc_Ring_cells (fun vs H Q E h => ?_) (fun cdv A outer s H vs Q E hr h => ?_)
  · obtain ⟨_, _, _, _, rfl, _⟩ := h
    rfl
  · obtain ⟨rg, h, w, b, rfl, w0, h1, w1, hb, ⟨dx, ru, ho⟩, q⟩ := h
    have hw := small_hw h1 w1
    refine ⟨_, (pss_cons (ps_set (i := 2) sc_Ring_cells.nd rfl (.inl rfl) (pe_lst pa_nil))
      (pss_cons (ps_while PassesOwn.never (pt_truth (pv 1) (by intro _; rfl))
      (pss_cons (ps_set (i := 3) sc_Ring_cells.nd rfl (.inl rfl) (pe_op op_and (pv 1) (pe_un un_neg (pv 1))))
      (pss_cons (ps_expr (pe_bm PySem.F.plainAttrs_list PySem.F.slot_list_append PySem.F.type_list_append mt_append (pv 2) (pa_cons (pe_callB call_divmod (by rfl) T.z_divmod (by decide +kernel) (pa_cons (pe_op op_sub (pe_bits (pv 3)) pe_int) (pa_cons (pe_fld (pv 0) rfl) pa_nil))) pa_nil)))
      (pss_one (ps_aug (i := 1) sc_Ring_cells.nd rfl (.inl rfl) (pv 3) ip_xorNN)))))
      (pss_one (ps_ret (pv 2))))), ?_⟩
    k_upd
    refine ⟨by k_clsL, fun cl nc => ?_⟩
    k_invariant "new" (nc, H1, e1, g1)
    k_upd
    unfold gName
    k_upd
    have full : (cellsW h w b).length ≤ 10000 := by
      unfold cellsW bitsB
      rw [List.length_map]
      exact Nat.le_trans (List.length_filter_le _ _) (by rw [List.length_range]; exact hw)
    refine while_by (fun σ H' => Same H H' ∧ ∃ (R : Nat) (x3 : Option V), σ = [some (.ref rg), some (.int (R : Int)), some (.ref cl), x3] ∧ R < 2 ^ (h * w) ∧
        ∃ us : List (Addr × Pr), H' cl = some (.lst (us.map fun t => V.ref t.1)) ∧ (∀ t ∈ us, H' t.1 = some (.tup [.int t.2.1, .int t.2.2])) ∧ us.map (·.2) ++ (bitsB (h * w) R).map (atW w) = cellsW h w b)
      (fun σ _ => match σ with | [_, some (.int R), _, _] => (bitsB (h * w) R.toNat).length | _ => 0)
      ⟨e1, b, _, rfl, hb, [], g1, fun _ m => (by cases m), rfl⟩ ?_ ?_
    · rintro σ H4 ⟨sm, R, x3, rfl, lR, us, hus, htu, eus⟩
      by_cases z : R = 0
      · refine ⟨_, rfl, _, tru0 z, iteF ?_⟩
        rw [z, bits_zero, List.map_nil, List.append_nil] at eus
        exact ⟨_, rfl, q H4 cl nc sm ⟨us, hus, htu, eus⟩⟩
      · obtain ⟨k, a, eR⟩ := low_bit R z
        subst eR
        refine ⟨_, rfl, _, tru1 z, iteT ?_⟩
        refine ⟨_, rfl, _, rfl, _, rfl, _, _, rfl, rfl, ?_⟩
        k_upd
        rw [low_and]
        have lu : us.length < sizeLine := by
          rw [← eus, List.length_append, List.length_map] at full
          rw [sizeLine_eq]
          omega
        refine ⟨_, rfl, .inl ⟨rfl, _, lst_of hus⟩, _, rfl, _, rfl, ?_⟩
        rw [intBits_pow]
        refine ⟨_, _, rfl, rfl, _, rfl, rg, _, _, _, _, rfl, sm _ _ ho, T.cl_Ring, T.na_Ring__width, rfl, _, _, rfl, ⟨by omega, by omega⟩, ?_⟩
        dsimp only
        rw [show ((k + 1 : Nat) : Int) - 1 = (k : Int) by omega]
        refine fun p5 n5 => ?_
        k_invariant "new" (n5, H5, e5, g5)
        refine ⟨_, _, _, rfl, rfl, e5 _ _ hus, by rw [List.length_map]; exact lu, ?_⟩
        refine ⟨_, rfl, _, rfl, _, _, rfl, rfl, ?_⟩
        rw [low_xor]
        k_upd
        have off : ∀ (b : Addr) (o : HO), H5 b = some o → (∀ xs, o ≠ .lst xs) → upd H5 cl (.lst ((us.map fun t => V.ref t.1) ++ [.ref p5])) b = some o := fun b o e ne => by
          rw [upd_ne fun z => ?_]
          · exact e
          · rw [z, e5 _ _ hus] at e
            exact ne _ (Option.some.inj e).symm
        have low := bits_low (N := h * w) lR
        refine ⟨⟨mutS (sm.trans e5) nc, _, _, rfl, Nat.lt_of_le_of_lt ?_ lR, us ++ [(p5, atW w k)], ?_, fun t m => ?_, ?_⟩, ?_⟩
        · exact Nat.mul_le_mul_left _ (by omega)
        · rw [upd_same, List.map_append]
          rfl
        · rcases List.mem_append.mp m with m | m
          · exact off _ _ (e5 _ _ (htu t m)) (fun _ z => by cases z)
          · rw [List.mem_singleton.mp m]
            exact off _ _ g5 (fun _ z => by cases z)
        · rw [List.map_append, ← eus, low, List.map_cons, List.append_assoc]
          rfl
        · show (bitsB (h * w) (((2 ^ k * (2 * a) : Nat) : Int)).toNat).length < (bitsB (h * w) (((2 ^ k * (2 * a + 1) : Nat) : Int)).toNat).length
          rw [Int.toNat_natCast, Int.toNat_natCast, low, List.length_cons]
          exact Nat.lt_succ_self _
    · exact fun σ H Q Q' m h => h.elim fun v h => ⟨v, h.1, h.2.elim fun k h => ⟨k, h.1, m _ _ h.2⟩⟩
def sp_from (C : Addr) (f : Nat → Nat → Nat → Nat) : Sp := fun vs H Q _ => ∃ (rg : Addr) (h w b : Nat), vs = [.ref rg, .int (b : Int)] ∧ 0 < h ∧ 0 < w ∧ h ≤ 100 ∧ w ≤ 100 ∧ b < 2 ^ (h * w) ∧ RgAt C H rg h w ∧ Q (.int (f h w b : Nat)) H
theorem ok_Ring_from_left (T : Txt K mg) : FnOk P w K mg base CX0 1 T.f_Ring_from_left T.d_Ring_from_left ["self", "bits"] (sp_from T.C_Ring leftR) := by
  refine T.F_Ring_from_left.ok sc_Ring_from_left (fun vs H Q E h => ?_) (fun cdv A outer s H vs Q E hr h => ?_)
  · obtain ⟨_, _, _, _, rfl, _⟩ := h
    rfl
  · obtain ⟨rg, h, w, b, rfl, h0, w0, h1, w1, hb, ⟨dx, ru, ho⟩, q⟩ := h
    have hw := small_hw h1 w1
    refine ⟨_, (pss_cons (ps_set (i := 2) sc_Ring_from_left.nd rfl (.inl rfl) (pe_op op_xorNN (pe_fld (pv 0) rfl) (pe_fld (pv 0) rfl)))
      (pss_one (ps_ret (pe_op op_orNN (pe_op op_andNN (pe_op op_shlNN (pv 1) pe_int) (pv 2)) (pe_op op_andNN (pe_op op_shrNN (pv 1) (pe_op op_sub (pe_fld (pv 0) rfl) pe_int)) (pe_fld (pv 0) rfl)))))), ?_⟩
    refine ⟨_, rfl, rg, _, _, _, _, rfl, ho, T.cl_Ring, T.na_Ring__full, rfl, _, rfl, rg, _, _, _, _, rfl, ho, T.cl_Ring, T.na_Ring__first_column, rfl, _, _, rfl, rfl, ?_⟩
    k_upd
    refine ⟨_, rfl, b, 1, h * w, rfl, rfl, hb, by omega, _, rfl, _, _, rfl, rfl, _, rfl, _, rfl, rg, _, _, _, _, rfl, ho, T.cl_Ring, T.na_Ring__width, rfl, _, _, rfl, rfl, b, w - 1, rfl, by dsimp only; congr 1; omega, _, rfl, rg, _, _, _, _, rfl, ho, T.cl_Ring, T.na_Ring__first_column, rfl, _, _, rfl, rfl, _, _, rfl, rfl, q⟩
theorem ok_Ring_from_right (T : Txt K mg) : FnOk P w K mg base CX0 1 T.f_Ring_from_right T.d_Ring_from_right ["self", "bits"] (sp_from T.C_Ring rightR) := by
  refine T.F_Ring_from_right.ok sc_Ring_from_right (fun vs H Q E h => ?_) (fun cdv A outer s H vs Q E hr h => ?_)
  · obtain ⟨_, _, _, _, rfl, _⟩ := h
    rfl
  · obtain ⟨rg, h, w, b, rfl, h0, w0, h1, w1, hb, ⟨dx, ru, ho⟩, q⟩ := h
    have hw := small_hw h1 w1
    refine ⟨_, (pss_cons (ps_set (i := 2) sc_Ring_from_right.nd rfl (.inl rfl) (pe_op op_xorNN (pe_fld (pv 0) rfl) (pe_fld (pv 0) rfl)))
      (pss_one (ps_ret (pe_op op_orNN (pe_op op_andNN (pe_op op_shrNN (pv 1) pe_int) (pv 2)) (pe_op op_andNN (pe_op op_shlNN (pv 1) (pe_op op_sub (pe_fld (pv 0) rfl) pe_int)) (pe_fld (pv 0) rfl)))))), ?_⟩
    refine ⟨_, rfl, rg, _, _, _, _, rfl, ho, T.cl_Ring, T.na_Ring__full, rfl, _, rfl, rg, _, _, _, _, rfl, ho, T.cl_Ring, T.na_Ring__last_column, rfl, _, _, rfl, rfl, ?_⟩
    k_upd
    refine ⟨_, rfl, b, 1, rfl, rfl, _, rfl, _, _, rfl, rfl, _, rfl, _, rfl, rg, _, _, _, _, rfl, ho, T.cl_Ring, T.na_Ring__width, rfl, _, _, rfl, rfl, b, w - 1, h * w, rfl, by dsimp only; congr 1; omega, hb, by omega, _, rfl, rg, _, _, _, _, rfl, ho, T.cl_Ring, T.na_Ring__last_column, rfl, _, _, rfl, rfl, _, _, rfl, rfl, q⟩
theorem hm1 {h w : Nat} (h0 : 0 < h) : ((h : Int) - 1) * (w : Int) = (((h - 1) * w : Nat) : Int) := by
  rw [Int.natCast_mul, Int.natCast_sub (by omega)]
  rfl
theorem ok_Ring_from_above (T : Txt K mg) : FnOk P w K mg base CX0 1 T.f_Ring_from_above T.d_Ring_from_above ["self", "bits"] (sp_from T.C_Ring aboveR) := by
  refine T.F_Ring_from_above.ok sc_Ring_from_above (fun vs H Q E h => ?_) (fun cdv A outer s H vs Q E hr h => ?_)
  · obtain ⟨_, _, _, _, rfl, _⟩ := h
    rfl
  · obtain ⟨rg, h, w, b, rfl, h0, w0, h1, w1, hb, ⟨dx, ru, ho⟩, q⟩ := h
    have hw := small_hw h1 w1
    refine ⟨_, (pss_one (ps_ret (pe_op op_orNN (pe_op op_andNN (pe_op op_shlNN (pv 1) (pe_fld (pv 0) rfl)) (pe_fld (pv 0) rfl)) (pe_op op_shrNN (pv 1) (pe_op op_mul (pe_op op_sub (pe_fld (pv 0) rfl) pe_int) (pe_fld (pv 0) rfl)))))), ?_⟩
    refine ⟨_, rfl, _, rfl, rg, _, _, _, _, rfl, ho, T.cl_Ring, T.na_Ring__width, rfl, b, w, h * w, rfl, rfl, hb, by omega, _, rfl, rg, _, _, _, _, rfl, ho, T.cl_Ring, T.na_Ring__full, rfl, _, _, rfl, rfl, _, rfl, _, rfl, rg, _, _, _, _, rfl, ho, T.cl_Ring, T.na_Ring__height, rfl, _, _, rfl, rfl, _, rfl, rg, _, _, _, _, rfl, ho, T.cl_Ring, T.na_Ring__width, rfl, _, _, rfl, rfl, .inl ⟨by omega, by omega⟩, b, (h - 1) * w, rfl, by dsimp only; rw [hm1 h0], _, _, rfl, rfl, q⟩
theorem ok_Ring_from_below (T : Txt K mg) : FnOk P w K mg base CX0 1 T.f_Ring_from_below T.d_Ring_from_below ["self", "bits"] (sp_from T.C_Ring belowR) := by
  refine T.F_Ring_from_below.ok sc_Ring_from_below (fun vs H Q E h => ?_) (fun cdv A outer s H vs Q E hr h => ?_)
  · obtain ⟨_, _, _, _, rfl, _⟩ := h
    rfl
  · obtain ⟨rg, h, w, b, rfl, h0, w0, h1, w1, hb, ⟨dx, ru, ho⟩, q⟩ := h
    have hw := small_hw (show h - 1 ≤ 100 by omega) w1
    have hw' := small_hw h1 w1
    refine ⟨_, (pss_one (ps_ret (pe_op op_orNN (pe_op op_shrNN (pv 1) (pe_fld (pv 0) rfl)) (pe_op op_andNN (pe_op op_shlNN (pv 1) (pe_op op_mul (pe_op op_sub (pe_fld (pv 0) rfl) pe_int) (pe_fld (pv 0) rfl))) (pe_fld (pv 0) rfl))))), ?_⟩
    refine ⟨_, rfl, _, rfl, rg, _, _, _, _, rfl, ho, T.cl_Ring, T.na_Ring__width, rfl, b, w, rfl, rfl, _, rfl, _, rfl, rg, _, _, _, _, rfl, ho, T.cl_Ring, T.na_Ring__height, rfl, _, _, rfl, rfl, _, rfl, rg, _, _, _, _, rfl, ho, T.cl_Ring, T.na_Ring__width, rfl, _, _, rfl, rfl, .inl ⟨by omega, by omega⟩, b, (h - 1) * w, h * w, rfl, by dsimp only; rw [hm1 h0], hb, by omega, _, rfl, rg, _, _, _, _, rfl, ho, T.cl_Ring, T.na_Ring__full, rfl, _, _, rfl, rfl, _, _, rfl, rfl, q⟩
end
end My
namespace My
open PySem PySem.Spec PyProof.Rows L2 Vx
open TL
local macro_rules | `(tactic| k_invariant "new" ($n, $H:ident, $e:ident, $h:ident)) => `(tactic| (generalize hE : upd _ _ _ = $H; obtain ⟨$e:ident, $h:ident⟩ := gen_e hE $n; clear hE))
local macro_rules | `(tactic| k_places) => `(tactic| first
  | assumption
  | exact lst_of (by assumption)
  | exact tup_of (by assumption)
  | (refine getS (by assumption) ?_; k_places)
  | (refine Same.seq (by assumption) ?_; k_places)
  | (refine tupS (by assumption) ?_; k_places)
  | (refine lst_of ?_; k_places)
  | (refine tup_of ?_; k_places))
local macro_rules | `(tactic| k_subL) => `(tactic| first
  | k_places
  | solve_by_elim (maxDepth := 10) [getS, lst_of, tup_of, Same.seq, tupS])
local macro_rules | `(tactic| k_offL) => `(tactic| first
  | (show (0 : Int) < _; first | omega | decide)
  | (refine ⟨?_, ?_⟩ <;> first | omega | decide)
  | exact .inr ⟨by decide, by decide⟩
  | exact .inl ⟨by decide, by decide⟩
  | exact .inl ⟨by omega, by omega⟩
  | omega)
local macro_rules | `(tactic| k_clsL) => `(tactic| exact Nat.le_of_ble_eq_true rfl)
local macro_rules | `(tactic| k_upd) => `(tactic| simp only [L2.start, List.map_cons, List.map_nil, List.length_cons, List.length_nil, List.replicate_succ, List.replicate_zero, List.cons_append, List.nil_append, List.set_cons_zero, List.set_cons_succ])
section
variable {P : Program} {w : World} {K : PySem.W.Frag} {mg : Str → Option Value} {base : Heap}
/-! ### generations on a ring -/
def itR (f : Nat → Nat) (b : Nat) : Nat → Nat
  | 0 => b
  | k + 1 => f (itR f b k)
def Dist (it : Nat → Nat) (n : Nat) : Prop := ∀ i j, i < j → j < n → it i ≠ it j
structure Rep (it : Nat → Nat) (L s : Nat) : Prop where
  lt : s < L
  eq : it L = it s
  ds : Dist it L
theorem Rep.uniq {it : Nat → Nat} {L s L' s' : Nat} (h : Rep it L s) (h' : Rep it L' s') : L = L' ∧ s = s' := by
  have e : L = L' := by
    rcases Nat.lt_trichotomy L L' with c | c | c
    · exact absurd h.eq.symm (h'.ds _ _ h.lt c)
    · exact c
    · exact absurd h'.eq.symm (h.ds _ _ h'.lt c)
  subst e
  refine ⟨rfl, ?_⟩
  have z : it s = it s' := h.eq.symm.trans h'.eq
  rcases Nat.lt_trichotomy s s' with c | c | c
  · exact absurd z (h.ds _ _ c h'.lt)
  · exact c
  · exact absurd z.symm (h.ds _ _ c h.lt)
theorem Rep.no {it : Nat → Nat} {L s n : Nat} (h : Rep it L s) (d : Dist it n) : n ≤ L := by
  refine Nat.le_of_not_lt fun c => d _ _ h.lt c h.eq.symm
theorem Dist.next {it : Nat → Nat} {n : Nat} (d : Dist it n) (h : ∀ k < n, it k ≠ it n) : Dist it (n + 1) := fun i j a b => by
  by_cases e : j = n
  · subst e
    exact h i a
  · exact d i j a (by omega)
theorem Dist.one (it : Nat → Nat) : Dist it 1 := fun i j a b => by omega
def Pick (it : Nat → Nat) (n m : Nat) : Prop := (m = n ∧ Dist it (n + 1)) ∨ ∃ L s, Rep it L s ∧ L ≤ n ∧ m = s + (n - s) % (L - s)
theorem it_fit {h w b : Nat} {bs ss : List Int} (hb : ∀ b ∈ bs, 1 ≤ b ∧ b ≤ 8) (hss : ∀ b ∈ ss, 0 ≤ b ∧ b ≤ 8) (h0 : 0 < h) (hw : 0 < w) (fb : b < 2 ^ (h * w)) : ∀ k, itR (afterN h w bs ss) b k < 2 ^ (h * w)
  | 0 => fb
  | k + 1 => after_fit hb hss hw h0 (it_fit hb hss h0 hw fb k)
/-! ### the dict of the states met -/
def kvI (it : Nat → Nat) (m : Nat) : List (Key × V) := (List.range m).map fun k => ((Sum.inl ((it k : Nat) : Int) : Key), V.int (k : Int))
theorem kvI_none {it : Nat → Nat} {m x : Nat} (h : ∀ k < m, it k ≠ x) : valV (kvI it m) (Sum.inl (x : Int)) = none := by
  unfold valV kvI
  rw [List.find?_eq_none.mpr fun kv hk => ?_]
  · rfl
  · obtain ⟨k, mk, rfl⟩ := List.mem_map.mp hk
    have := h k (List.mem_range.mp mk)
    intro z
    have z := of_decide_eq_true z
    have z : ((it k : Nat) : Int) = (x : Int) := Sum.inl.inj z
    omega
theorem kvI_some {it : Nat → Nat} : ∀ {m k : Nat}, Dist it m → k < m → valV (kvI it m) (Sum.inl ((it k : Nat) : Int)) = some (.int (k : Int)) := by
  intro m k d hk
  unfold valV kvI
  have : ((List.range m).map fun k => ((Sum.inl ((it k : Nat) : Int) : Key), V.int (k : Int))).find? (fun kv => decide (kv.1 = Sum.inl ((it k : Nat) : Int))) = some (Sum.inl ((it k : Nat) : Int), V.int (k : Int)) := by
    rw [List.find?_map]
    have e : (List.range m).find? ((fun kv : Key × V => decide (kv.1 = Sum.inl ((it k : Nat) : Int))) ∘ fun k => ((Sum.inl ((it k : Nat) : Int) : Key), V.int (k : Int))) = some k := by
      refine List.find?_range_eq_some.mpr ⟨decide_eq_true rfl, List.mem_range.mpr hk, fun j hj => ?_⟩
      have := d j k hj hk
      show (!decide ((Sum.inl ((it j : Nat) : Int) : Key) = Sum.inl ((it k : Nat) : Int))) = true
      rw [decide_eq_false (show ¬ ((Sum.inl ((it j : Nat) : Int) : Key) = Sum.inl ((it k : Nat) : Int)) from fun z => this (by have := Sum.inl.inj z; omega))]
      rfl
    rw [e]
    rfl
  rw [this]
  rfl
theorem kvI_put {it : Nat → Nat} {m : Nat} (h : ∀ k < m, it k ≠ it m) : putK (kvI it m) (Sum.inl ((it m : Nat) : Int)) (.int (m : Int)) = kvI it (m + 1) := by
  have n := kvI_none h
  unfold putK
  rw [valV_any, n, if_neg (by decide)]
  unfold kvI
  rw [List.range_succ, List.map_append]
  rfl
theorem kvI_len (it : Nat → Nat) (m : Nat) : (kvI it m).length = m := by
  unfold kvI
  rw [List.length_map, List.length_range]
def stL (it : Nat → Nat) (m : Nat) : List V := (List.range m).map fun k => V.int ((it k : Nat) : Int)
theorem stL_at {it : Nat → Nat} {m k : Nat} (h : k < m) : (stL it m)[k]? = some (.int ((it k : Nat) : Int)) := by
  unfold stL
  rw [List.getElem?_map, List.getElem?_range h]
  rfl
theorem stL_len (it : Nat → Nat) (m : Nat) : (stL it m).length = m := by
  unfold stL
  rw [List.length_map, List.length_range]
theorem stL_last (it : Nat → Nat) (i : Nat) : atI (stL it (i + 1)) (-1) = some (.int ((it i : Nat) : Int)) := by
  unfold stL
  rw [List.range_succ, List.map_append]
  exact atI_last _ _
def sp_Ring_after (C CR : Addr) : Sp := fun vs H Q _ => ∃ (rg : Addr) (h w b : Nat) (bs ss : List Int), vs = [.ref rg, .int (b : Int)] ∧ 0 < h ∧ 0 < w ∧ h ≤ 100 ∧ w ≤ 100 ∧ b < 2 ^ (h * w) ∧ RingIs C CR H rg bs ss h w ∧ (∀ b ∈ bs, 1 ≤ b ∧ b ≤ 8) ∧ (∀ b ∈ ss, 0 ≤ b ∧ b ≤ 8) ∧
  ∀ H', Same H H' → Q (.int (afterN h w bs ss b : Nat)) H'
theorem ok_Ring_after (T : Txt K mg) : FnOk P w K mg base CX0 2 T.f_Ring_after T.d_Ring_after ["self", "bits"] (sp_Ring_after T.C_Ring T.C_Rule) := by
  refine T.F_Ring_after.ok sc_Ring_after (fun vs H Q E h => ?_) (fun cdv A outer s H vs Q E hr h => ?_)
  · obtain ⟨_, _, _, _, _, _, rfl, _⟩ := h
    rfl
  · obtain ⟨rg, h, w, b, bs, ss, rfl, h0, w0, h1, w1, fb, hR, hb, hss, q⟩ := h
    obtain ⟨dx, ru, ho, hrl⟩ := id hR
    refine ⟨_, (pss_cons (ps_if (pt_not (pt_truth (pv 1) (by intro _; rfl)))
      (pss_one (ps_ret pe_int))
      pss_nil)
      (pss_cons (ps_asg (pe_call (ok_sums_of T) (hr.mono (by decide)) (by rfl) T.g_sums_of T.F_sums_of.kp T.b_sums_of .nil pass0 (pa_cons (pe_meth (pv 0) T.cl_Ring T.m_Ring_from_left (ok_Ring_from_left T) (hr.mono (by decide)) T.b_Ring_from_left .nil pass0 (pa_cons (pv 1) pa_nil)) (pa_cons (pv 1) (pa_cons (pe_meth (pv 0) T.cl_Ring T.m_Ring_from_right (ok_Ring_from_right T) (hr.mono (by decide)) T.b_Ring_from_right .nil pass0 (pa_cons (pv 1) pa_nil)) pa_nil)))) (pg_tupK (K := K) (n := 2) rfl rfl (pgs_cons (pg_name (i := 2) sc_Ring_after.nd rfl (.inl rfl)) (pgs_cons (pg_name (i := 3) sc_Ring_after.nd rfl (.inl rfl)) pgs_nil))))
      (pss_cons (ps_set (i := 4) sc_Ring_after.nd rfl (.inl rfl) (pe_tup (pa_cons (pe_meth (pv 0) T.cl_Ring T.m_Ring_from_above (ok_Ring_from_above T) (hr.mono (by decide)) T.b_Ring_from_above .nil pass0 (pa_cons (pv 2) pa_nil)) (pa_cons (pe_meth (pv 0) T.cl_Ring T.m_Ring_from_above (ok_Ring_from_above T) (hr.mono (by decide)) T.b_Ring_from_above .nil pass0 (pa_cons (pv 3) pa_nil)) pa_nil))))
      (pss_cons (ps_set (i := 5) sc_Ring_after.nd rfl (.inl rfl) (pe_tup (pa_cons (pe_meth (pv 0) T.cl_Ring T.m_Ring_from_below (ok_Ring_from_below T) (hr.mono (by decide)) T.b_Ring_from_below .nil pass0 (pa_cons (pv 2) pa_nil)) (pa_cons (pe_meth (pv 0) T.cl_Ring T.m_Ring_from_below (ok_Ring_from_below T) (hr.mono (by decide)) T.b_Ring_from_below .nil pass0 (pa_cons (pv 3) pa_nil)) pa_nil))))
      (pss_one (ps_ret (pe_call (ok_next_strip T) (hr.mono (by decide)) (by rfl) T.g_next_strip T.F_next_strip.kp T.b_next_strip .nil pass0 (pa_cons (pv 1) (pa_cons (pe_call (ok_totals_of T) (hr.mono (by decide)) (by rfl) T.g_totals_of T.F_totals_of.kp T.b_totals_of .nil pass0 (pa_cons (pv 4) (pa_cons (pe_tup (pa_cons (pv 2) (pa_cons (pv 3) pa_nil))) (pa_cons (pv 5) pa_nil)))) (pa_cons (pe_fld (pv 0) rfl) pa_nil)))))))))), ?_⟩
    k_upd
    by_cases z : b = 0
    · refine ⟨_, rfl, _, tru0 z, iteT ?_⟩
      have q0 := q H fun _ _ e => e
      rw [z, after_zero hb hss w0 h0] at q0
      exact q0
    · refine ⟨_, rfl, _, tru1 z, iteF ?_⟩
      refine ⟨_, rfl, rg, _, _, rfl, ho, rfl, _, rfl, rg, h, w, b, rfl, h0, w0, h1, w1, fb, ⟨dx, ru, ho⟩, _, rfl, _, rfl, rg, _, _, rfl, ho, rfl, _, rfl, rg, h, w, b, rfl, h0, w0, h1, w1, fb, ⟨dx, ru, ho⟩, _, _, _, rfl, fun H1 p1 e1 n1 g1 => ?_⟩
      refine ⟨p1, _, rfl, tup_of g1, rfl, _, _, rfl, _, _, rfl, rfl, ?_⟩
      k_upd
      have fo := onesG_fit w0 fb
      have ft := twosG_fit w0 fb
      have ho1 := e1 _ _ ho
      refine ⟨_, rfl, rg, _, _, rfl, ho1, rfl, _, rfl, rg, h, w, onesG h w b, rfl, h0, w0, h1, w1, fo, ⟨dx, ru, ho1⟩, _, rfl, rg, _, _, rfl, ho1, rfl, _, rfl, rg, h, w, twosG h w b, rfl, h0, w0, h1, w1, ft, ⟨dx, ru, ho1⟩, by k_clsL, fun pa na => ?_⟩
      k_invariant "new" (na, H2, e2, g2)
      k_upd
      have ho2 := e2 _ _ ho1
      refine ⟨_, rfl, rg, _, _, rfl, ho2, rfl, _, rfl, rg, h, w, onesG h w b, rfl, h0, w0, h1, w1, fo, ⟨dx, ru, ho2⟩, _, rfl, rg, _, _, rfl, ho2, rfl, _, rfl, rg, h, w, twosG h w b, rfl, h0, w0, h1, w1, ft, ⟨dx, ru, ho2⟩, by k_clsL, fun pb nb => ?_⟩
      k_invariant "new" (nb, H3, e3, g3)
      k_upd
      refine ⟨_, rfl, _, rfl, _, rfl, _, rfl, by k_clsL, fun ph nh => ?_⟩
      k_invariant "new" (nh, H4, e4, g4)
      have s4 : Same H H4 := e1.trans (e2.trans (e3.trans e4))
      refine ⟨_, rfl, pa, ph, pb, _, _, _, _, _, _, rfl, e4 _ _ (e3 _ _ g2), g4, e4 _ _ g3, fun H5 p5 e5 n5 g5 => ?_⟩
      refine ⟨_, rfl, rg, _, _, _, _, rfl, e5 _ _ (s4 _ _ ho), T.cl_Ring, T.na_Ring__rule, rfl, p5, ru, b, _, _, _, _, bs, ss, rfl, g5, hrl.up (s4.trans e5), fun b m => ⟨by have := hb b m; omega, (hb b m).2⟩, hss, fun H6 e6 => ?_⟩
      exact q H6 (s4.trans (e5.trans e6))
def sp_Ring_history (C CR : Addr) : Sp := fun vs H Q _ => ∃ (rg l : Addr) (h w n b0 : Nat) (ps : List Pr) (bs ss : List Int), vs = [.ref rg, .ref l, .int (n : Int)] ∧ 0 < h ∧ 0 < w ∧ h ≤ 100 ∧ w ≤ 100 ∧ RingIs C CR H rg bs ss h w ∧ (∀ b ∈ bs, 1 ≤ b ∧ b ≤ 8) ∧ (∀ b ∈ ss, 0 ≤ b ∧ b ≤ 8) ∧
  Cells H l ps ∧ BitsOf h w b0 ps ∧ n < 2 ^ 61 ∧ (∀ k, k ≤ n → Dist (itR (afterN h w bs ss) b0) (k + 1) → k ≤ 5000) ∧
  ∀ (H' : Hp) (p t : Addr) (L : Nat) (v : V), Same H H' → H' p = some (.tup [.ref t, v]) → H' t = some (.lst (stL (itR (afterN h w bs ss) b0) L)) →
    ((v = .non ∧ L = n + 1 ∧ Dist (itR (afterN h w bs ss) b0) (n + 1)) ∨ ∃ s : Nat, v = .int (s : Int) ∧ Rep (itR (afterN h w bs ss) b0) L s ∧ L ≤ n) → Q (.ref p) H'
theorem ok_Ring_history (T : Txt K mg) : FnOk P w K mg base CX0 3 T.f_Ring_history T.d_Ring_history ["self", "cells", "bound"] (sp_Ring_history T.C_Ring T.C_Rule) := by
  refine T.F_Ring_history.ok sc_Ring_history (fun vs H Q E h => ?_) (fun cdv A outer s H vs Q E hr h => ?_)
  · obtain ⟨_, _, _, _, _, _, _, _, _, rfl, _⟩ := h
    rfl
  · obtain ⟨rg, l, h, w, n, b0, ps, bs, ss, rfl, h0, w0, h1, w1, hR, hb, hss, hC, hB, n61, cap, q⟩ := h
    obtain ⟨dx, ru, ho, hrl⟩ := id hR
    have hu : (A.deeper (envOfC (Str.ofString "Ring.history") (defScope s_Ring_history) s.heap.objs.size T.f_Ring_history cdv)).units + 1 < cLine := by
      have := hr.units
      omega
    refine ⟨_, (pss_cons (ps_set (i := 3) sc_Ring_history.nd rfl (.inl rfl) (pe_lst (pa_cons (pe_meth (pv 0) T.cl_Ring T.m_Ring_bits (ok_Ring_bits T) (hr.mono (by decide)) T.b_Ring_bits .nil pass0 (pa_cons (pv 1) pa_nil)) pa_nil)))
      (pss_cons (ps_set (i := 4) sc_Ring_history.nd rfl (.inl rfl) (pe_disp (pps_cons (pe_ix ix_list (pv 3) pe_int (fun _ _ => rfl)) pe_int pps_nil) rfl rfl (by intro h; cases h) (by decide)))
      (pss_cons (ps_for PassesOwn.never rfl (pi_range2 (by rfl) T.z_range (pa_cons pe_int (pa_cons (pe_op op_add (pv 2) pe_int) pa_nil))) (pg_name (i := 5) sc_Ring_history.nd rfl (.inl rfl))
      (pss_cons (ps_set (i := 6) sc_Ring_history.nd rfl (.inl rfl) (pe_meth (pv 0) T.cl_Ring T.m_Ring_after (ok_Ring_after T) (hr.mono (by decide)) T.b_Ring_after .nil pass0 (pa_cons (pe_ix ix_list (pv 3) (pe_un un_neg pe_int) (fun _ _ => rfl)) pa_nil)))
      (pss_cons (ps_if (pt_cmp (pc_din hu (pv 6) (pv 4)))
      (pss_one (ps_ret (pe_tup (pa_cons (pv 3) (pa_cons (pe_dget hu (pv 4) (pv 6) (fun _ _ => rfl)) pa_nil)))))
      pss_nil)
      (pss_cons (ps_dput hu (pv 4) (pv 6) (pv 5) rfl)
      (pss_one (ps_expr (pe_bm PySem.F.plainAttrs_list PySem.F.slot_list_append PySem.F.type_list_append mt_append (pv 3) (pa_cons (pv 6) pa_nil))))))))
      (pss_one (ps_ret (pe_tup (pa_cons (pv 3) (pa_cons pe_non pa_nil)))))))), ?_⟩
    k_upd
    have fit := it_fit hb hss h0 w0 (hB.fit h0 w0)
    obtain ⟨it, eit⟩ : ∃ it, it = itR (afterN h w bs ss) b0 := ⟨_, rfl⟩
    have it0 : it 0 = b0 := by rw [eit]; rfl
    have its : ∀ k, afterN h w bs ss (it k) = it (k + 1) := fun k => by rw [eit]; rfl
    rw [← eit] at q cap fit
    refine ⟨_, rfl, rg, _, _, rfl, ho, rfl, _, rfl, rg, l, h, w, ps, rfl, h0, w0, h1, w1, ⟨dx, ru, ho⟩, hC, fun B hB' => ⟨by k_clsL, fun sl nsl => ?_⟩⟩
    have eB : B = it 0 := it0 ▸ hB'.uniq hB fun _ => Iff.rfl
    subst eB
    have nsl0 := nsl
    k_invariant "new" (nsl, H1, e1, g1)
    k_upd
    refine fun nd nnd => ⟨_, rfl, sl, _, _, _, rfl, rfl, lst_of (newS nnd _ _ g1), rfl, upd_same, [(Sum.inl ((it 0 : Nat) : Int), .int 0)], rfl, by k_clsL, ?_⟩
    have s2 : Same H (upd (upd H1 nd (.dK [])) nd (.dK (mergeK [] [(Sum.inl ((it 0 : Nat) : Int), .int 0)]))) := mutS (e1.trans (newS nnd)) (backS e1 nnd)
    have sl2 : upd (upd H1 nd (.dK [])) nd (.dK (mergeK [] [(Sum.inl ((it 0 : Nat) : Int), .int 0)])) sl = some (.lst (stL it 1)) := by
      rw [upd_ne (fun e => by rw [e, nnd] at g1; cases g1), upd_ne (fun e => by rw [e, nnd] at g1; cases g1)]
      exact g1
    have nd2 : upd (upd H1 nd (.dK [])) nd (.dK (mergeK [] [(Sum.inl ((it 0 : Nat) : Int), .int 0)])) nd = some (.dK (kvI it 1)) := upd_same
    have dn : H nd = none := backS e1 nnd
    have ne : sl ≠ nd := fun e => by rw [e, nnd] at g1; cases g1
    generalize upd (upd H1 nd (.dK [])) nd (.dK (mergeK [] [(Sum.inl ((it 0 : Nat) : Int), .int 0)])) = H2 at s2 sl2 nd2
    k_upd
    have eN : ((n : Int) + 1 - 1).toNat = n := by omega
    refine ⟨_, rfl, _, _, rfl, rfl, _, _, rfl, ⟨by omega, by omega, by omega, by omega⟩, for_range (lo := 1) (n := ((n : Int) + 1 - 1).toNat) (fun i σ H' => Same H H' ∧ H' sl = some (.lst (stL it (i + 1))) ∧ H' nd = some (.dK (kvI it (i + 1))) ∧ Dist it (i + 1) ∧ ∃ x5 x6 : Option V, σ = [some (.ref rg), some (.ref l), some (.int (n : Int)), some (.ref sl), some (.ref nd), x5, x6])
      ⟨s2, sl2, nd2, Dist.one it, _, _, rfl⟩ ?_ ?_⟩
    · rintro i σ H' hi ⟨sm, hsl, hnd, hD, x5, x6, rfl⟩
      rw [eN] at hi
      have hi5 := cap i (by omega) hD
      refine ⟨_, rfl, rg, _, _, rfl, sm _ _ ho, rfl, _, rfl, _, rfl, sl, _, _, _, rfl, rfl, lst_of hsl, (stL_last it i), rg, h, w, it i, bs, ss, rfl, h0, w0, h1, w1, fit i, hR.up sm, hb, hss, fun H3 e3 => ?_⟩
      rw [its i]
      k_upd
      have hsl3 := e3 _ _ hsl
      have hnd3 := e3 _ _ hnd
      refine ⟨_, rfl, _, rfl, nd, _, rfl, DGet.k (k := Sum.inl ((it (i + 1) : Nat) : Int)) hnd3, ?_⟩
      by_cases c : ∃ k, k < i + 1 ∧ it k = it (i + 1)
      · obtain ⟨k, hk, ek⟩ := c
        have vk := kvI_some hD hk
        rw [ek] at vk
        rw [vk]
        refine ⟨_, rfl, iteT ?_⟩
        refine ⟨_, rfl, _, rfl, _, rfl, nd, .int (k : Int), rfl, ?_, by k_clsL, fun pt npt => ?_⟩
        · have dg := DGet.k (k := Sum.inl ((it (i + 1) : Nat) : Int)) hnd3
          rw [vk] at dg
          exact dg
        · exact q _ pt sl (i + 1) _ ((sm.trans e3).trans (newS npt)) upd_same (newS npt _ _ hsl3) (.inr ⟨k, rfl, ⟨hk, ek.symm, hD⟩, by omega⟩)
      · have nk : ∀ k < i + 1, it k ≠ it (i + 1) := fun k hk e => c ⟨k, hk, e⟩
        rw [kvI_none nk]
        refine ⟨_, rfl, iteF ?_⟩
        have en : (1 : Int) + (i : Int) = ((i + 1 : Nat) : Int) := by omega
        refine ⟨_, rfl, _, rfl, _, rfl, nd, _, rfl, DPut.k (k := Sum.inl ((it (i + 1) : Nat) : Int)) hnd3 (by rw [kvI_len, sizeLine_eq]; omega), ?_⟩
        rw [en, kvI_put nk]
        have s4 : Same H (upd H3 nd (.dK (kvI it (i + 1 + 1)))) := mutS (sm.trans e3) dn
        have sl4 : upd H3 nd (.dK (kvI it (i + 1 + 1))) sl = some (.lst (stL it (i + 1))) := by
          rw [upd_ne ne]
          exact hsl3
        have nd4 : upd H3 nd (.dK (kvI it (i + 1 + 1))) nd = some (.dK (kvI it (i + 1 + 1))) := upd_same
        generalize upd H3 nd (.dK (kvI it (i + 1 + 1))) = H4 at s4 sl4 nd4
        refine ⟨_, rfl, .inl ⟨rfl, _, lst_of sl4⟩, _, rfl, _, _, _, rfl, rfl, sl4, by rw [stL_len, sizeLine_eq]; omega, ?_⟩
        refine ⟨mutS s4 nsl0, ?_, ?_, hD.next nk, _, _, rfl⟩
        · rw [upd_same]
          unfold stL
          rw [List.range_succ (n := i + 1), List.map_append]
          rfl
        · rw [upd_ne (Ne.symm ne)]
          exact nd4
    · rintro σ H' ⟨sm, hsl, hnd, hD, x5, x6, rfl⟩
      rw [eN] at hsl hnd hD
      refine ⟨_, rfl, by k_clsL, fun pt npt => ?_⟩
      exact q _ pt sl (n + 1) _ (sm.trans (newS npt)) upd_same (newS npt _ _ hsl) (.inl ⟨rfl, rfl, hD⟩)
end
end My
namespace My
open PySem PySem.Spec PyProof.Rows L2 Vx
open TL
local macro_rules | `(tactic| k_invariant "new" ($n, $H:ident, $e:ident, $h:ident)) => `(tactic| (generalize hE : upd _ _ _ = $H; obtain ⟨$e:ident, $h:ident⟩ := gen_e hE $n; clear hE))
local macro_rules | `(tactic| k_places) => `(tactic| first
  | assumption
  | exact lst_of (by assumption)
  | exact tup_of (by assumption)
  | (refine getS (by assumption) ?_; k_places)
  | (refine Same.seq (by assumption) ?_; k_places)
  | (refine tupS (by assumption) ?_; k_places)
  | (refine lst_of ?_; k_places)
  | (refine tup_of ?_; k_places))
local macro_rules | `(tactic| k_subL) => `(tactic| first
  | k_places
  | solve_by_elim (maxDepth := 10) [getS, lst_of, tup_of, Same.seq, tupS])
local macro_rules | `(tactic| k_offL) => `(tactic| first
  | (show (0 : Int) < _; first | omega | decide)
  | (refine ⟨?_, ?_⟩ <;> first | omega | decide)
  | exact .inr ⟨by decide, by decide⟩
  | exact .inl ⟨by decide, by decide⟩
  | exact .inl ⟨by omega, by omega⟩
  | omega)
local macro_rules | `(tactic| k_clsL) => `(tactic| exact Nat.le_of_ble_eq_true rfl)
local macro_rules | `(tactic| k_upd) => `(tactic| simp only [L2.start, List.map_cons, List.map_nil, List.length_cons, List.length_nil, List.replicate_succ, List.replicate_zero, List.cons_append, List.nil_append, List.set_cons_zero, List.set_cons_succ])
section
variable {P : Program} {w : World} {K : PySem.W.Frag} {mg : Str → Option Value} {base : Heap}
def sp_ring_grown (C CR : Addr) : Sp := fun vs H Q _ => ∃ (l ru : Addr) (h w n b0 : Nat) (ps : List Pr) (bs ss : List Int), vs = [.ref l, .ref ru, .int (h : Int), .int (w : Int), .int (n : Int)] ∧ 0 < h ∧ 0 < w ∧ h ≤ 100 ∧ w ≤ 100 ∧ RuleAt CR H ru bs ss ∧ (∀ b ∈ bs, 1 ≤ b ∧ b ≤ 8) ∧ (∀ b ∈ ss, 0 ≤ b ∧ b ≤ 8) ∧
  Cells H l ps ∧ BitsOf h w b0 ps ∧ n < 2 ^ 61 ∧ (∀ k, k ≤ n → Dist (itR (afterN h w bs ss) b0) (k + 1) → k ≤ 5000) ∧
  ∀ (H' : Hp) (p : Addr) (m : Nat), H p = none → Same H H' → Pick (itR (afterN h w bs ss) b0) n m → Cells H' p (cellsW h w (itR (afterN h w bs ss) b0 m)) → Q (.ref p) H'
theorem non_non : decide (V.non = V.non) = true := decide_eq_true rfl
theorem int_non (i : Int) : decide (V.int i = V.non) = false := decide_eq_false (by intro z; cases z)
theorem ref_non (a : Addr) : decide (V.ref a = V.non) = false := decide_eq_false (by intro z; cases z)
theorem ok_ring_grown (T : Txt K mg) : FnOk P w K mg base CX0 4 T.f_ring_grown T.d_ring_grown ["cells", "rule", "height", "width", "generations"] (sp_ring_grown T.C_Ring T.C_Rule) := by
  refine T.F_ring_grown.ok sc_ring_grown (fun vs H Q E h => ?_) (fun cdv A outer s H vs Q E hr h => ?_)
  · obtain ⟨_, _, _, _, _, _, _, _, _, rfl, _⟩ := h
    rfl
  · obtain ⟨l, ru, h, w, n, b0, ps, bs, ss, rfl, h0, w0, h1, w1, hrl, hb, hss, hC, hB, n61, cap, q⟩ := h
    refine ⟨_, (pss_cons (ps_set (i := 5) sc_ring_grown.nd rfl (.inl rfl) (pe_make T.M_Ring (ok_Ring_init T) (hr.mono (by decide)) rfl T.g_Ring T.b_Ring_init .nil pass0 (pa_cons (pv 1) (pa_cons (pv 2) (pa_cons (pv 3) pa_nil)))))
      (pss_cons (ps_asg (pe_meth (pv 5) T.cl_Ring T.m_Ring_history (ok_Ring_history T) (hr.mono (by decide)) T.b_Ring_history .nil pass0 (pa_cons (pv 0) (pa_cons (pv 4) pa_nil))) (pg_tupK (K := K) (n := 2) rfl rfl (pgs_cons (pg_name (i := 6) sc_ring_grown.nd rfl (.inl rfl)) (pgs_cons (pg_name (i := 7) sc_ring_grown.nd rfl (.inl rfl)) pgs_nil))))
      (pss_cons (ps_if (pt_cmpR op_notN (pv 7) pe_non (nomark _))
      (pss_one (ps_set (i := 4) sc_ring_grown.nd rfl (.inl rfl) (pe_op op_add (pv 7) (pe_op op_mod (pe_op op_sub (pv 4) (pv 7)) (pe_op op_sub (pe_callB call_lenL (by rfl) T.z_len (by decide +kernel) (pa_cons (pv 6) pa_nil)) (pv 7))))))
      pss_nil)
      (pss_one (ps_ret (pe_meth (pv 5) T.cl_Ring T.m_Ring_cells (ok_Ring_cells T) (hr.mono (by decide)) T.b_Ring_cells .nil pass0 (pa_cons (pe_ix ix_list (pv 6) (pv 4) (fun _ _ => rfl)) pa_nil))))))), ?_⟩
    k_upd
    have fit := it_fit hb hss h0 w0 (hB.fit h0 w0)
    refine ⟨_, rfl, _, rfl, _, rfl, ?_⟩
    intro rg dx nx nd nex
    refine ⟨H, rg, ru, dx, h, w, rfl, h1, w1, madeS nx nd, nx, upd_same, fun H1 e1 ⟨dx1, g1⟩ => ⟨rfl, ?_⟩⟩
    k_upd
    have hR1 : RingIs T.C_Ring T.C_Rule H1 rg bs ss h w := ⟨dx1, ru, g1, hrl.up e1⟩
    refine ⟨_, rfl, rg, _, _, rfl, g1, rfl, _, rfl, _, rfl, rg, l, h, w, n, b0, ps, bs, ss, rfl, h0, w0, h1, w1, hR1, hb, hss, hC.up e1, hB, n61, cap, fun H2 p t L v e2 g2 gt hv => ?_⟩
    generalize itR (afterN h w bs ss) b0 = it at q cap fit gt hv
    refine ⟨p, _, rfl, tup_of g2, rfl, _, _, rfl, _, _, rfl, rfl, ?_⟩
    k_upd
    have g12 := e2 _ _ g1
    have s2 : Same H H2 := e1.trans e2
    rcases hv with ⟨rfl, rfl, hD⟩ | ⟨s', rfl, hRp, hL⟩
    · refine ⟨_, rfl, rfl, _, rfl, ?_⟩
      rw [non_non]
      refine iteF ?_
      refine ⟨_, rfl, rg, _, _, rfl, g12, rfl, _, rfl, _, rfl, t, _, _, _, rfl, rfl, lst_of gt, atI_nat (stL_at (show n < n + 1 by omega)), rg, h, w, it n, rfl, w0, h1, w1, fit n, ⟨dx1, ru, g12⟩, fun H3 p3 n3 e3 c3 => ?_⟩
      exact q H3 p3 n (backS s2 n3) (s2.trans e3) (.inl ⟨rfl, hD⟩) c3
    · refine ⟨_, rfl, rfl, _, rfl, ?_⟩
      rw [int_non]
      refine iteT ?_
      have lt := hRp.lt
      refine ⟨_, rfl, _, rfl, _, rfl, _, _, rfl, rfl, _, rfl, _, _, rfl, lst_of gt, _, rfl, _, _, rfl, rfl, _, _, rfl, rfl, ?_, _, _, rfl, rfl, ?_⟩
      · rw [stL_len]
        omega
      rw [stL_len]
      have em : (s' : Int) + ((n : Int) - (s' : Int)) % ((L : Int) - (s' : Int)) = ((s' + (n - s') % (L - s') : Nat) : Int) := by
        rw [Int.natCast_add, Int.natCast_emod, Int.natCast_sub (by omega), Int.natCast_sub (by omega)]
      dsimp only
      rw [em]
      have lm : s' + (n - s') % (L - s') < L := by
        have := Nat.mod_lt (n - s') (show 0 < L - s' by omega)
        omega
      unfold gName
      k_upd
      refine ⟨_, rfl, rg, _, _, rfl, g12, rfl, _, rfl, _, rfl, t, _, _, _, rfl, rfl, lst_of gt, atI_nat (stL_at lm), rg, h, w, it _, rfl, w0, h1, w1, fit _, ⟨dx1, ru, g12⟩, fun H3 p3 n3 e3 c3 => ?_⟩
      exact q H3 p3 _ (backS s2 n3) (s2.trans e3) (.inr ⟨L, s', hRp, hL, rfl⟩) c3
end
end My
namespace My
open PySem PySem.Spec PyProof.Rows L2 Vx
open TL
local macro_rules | `(tactic| k_invariant "new" ($n, $H:ident, $e:ident, $h:ident)) => `(tactic| (generalize hE : upd _ _ _ = $H; obtain ⟨$e:ident, $h:ident⟩ := gen_e hE $n; clear hE))
local macro_rules | `(tactic| k_places) => `(tactic| first
  | assumption
  | exact lst_of (by assumption)
  | exact tup_of (by assumption)
  | (refine getS (by assumption) ?_; k_places)
  | (refine Same.seq (by assumption) ?_; k_places)
  | (refine tupS (by assumption) ?_; k_places)
  | (refine lst_of ?_; k_places)
  | (refine tup_of ?_; k_places))
local macro_rules | `(tactic| k_subL) => `(tactic| first
  | k_places
  | solve_by_elim (maxDepth := 10) [getS, lst_of, tup_of, Same.seq, tupS])
local macro_rules | `(tactic| k_offL) => `(tactic| first
  | (show (0 : Int) < _; first | omega | decide)
  | (refine ⟨?_, ?_⟩ <;> first | omega | decide)
  | exact .inr ⟨by decide, by decide⟩
  | exact .inl ⟨by decide, by decide⟩
  | exact .inl ⟨by omega, by omega⟩
  | omega)
local macro_rules | `(tactic| k_clsL) => `(tactic| exact Nat.le_of_ble_eq_true rfl)
local macro_rules | `(tactic| k_upd) => `(tactic| simp only [L2.start, List.map_cons, List.map_nil, List.length_cons, List.length_nil, List.replicate_succ, List.replicate_zero, List.cons_append, List.nil_append, List.set_cons_zero, List.set_cons_succ])
section
variable {P : Program} {w : World} {K : PySem.W.Frag} {mg : Str → Option Value} {base : Heap}
theorem ok_law_cell (T : Txt K mg) : FnOk P w K mg base CX0 1 T.f_law_cell T.d_law_cell ["script", "k"] (spCell K) := by
  refine T.F_law_cell.ok sc_law_cell (fun vs H Q E h => ?_) (fun cdv A outer s H vs Q E hr h => ?_)
  · obtain ⟨l, ns, j, rfl, _⟩ := h
    rfl
  · obtain ⟨l, ns, j, rfl, hs, q⟩ := h
    refine ⟨_, (pss_cons (ps_if (pt_cmpR op_lt (pv 1) (pe_callB call_lenL (by rfl) T.z_len (by decide +kernel) (pa_cons (pv 0) pa_nil)) (nomark _))
      (pss_one (ps_ret (pe_callTy call_intI (by rfl) T.z_int (by decide +kernel) (pa_cons (pe_ix ix_list (pv 0) (pv 1) (fun _ _ => rfl)) pa_nil))))
      pss_nil)
      (pss_one (ps_ret pe_int))), ?_⟩
    refine ⟨_, rfl, _, rfl, _, _, rfl, hs, _, _, rfl, rfl, _, rfl, ite2 (fun c => ?_) (fun c => ?_)⟩
    · have hj : j < ns.length := by
        have z := of_decide_eq_true c
        rw [List.length_map] at z
        omega
      exact ⟨_, rfl, _, rfl, _, _, _, _, rfl, rfl, hs, atI_cell hj, _, rfl, q⟩
    · have hj : ¬ j < ns.length := fun z => c (decide_eq_true (by rw [List.length_map]; omega))
      rw [cell_out hj] at q
      exact q
/-! ### law_row: so many numbers from 0 to below the bound -/
def sp_law_row : Sp := fun vs H Q _ => ∃ (cell count bound : Int), vs = [.int cell, .int count, .int bound] ∧ 0 ≤ count ∧ count ≤ 100000 ∧ 0 < bound ∧ bound < 1000000000 ∧
  ∀ (H' : Hp) (p : Addr) (xs : List Int), H p = none → Same H H' → H' p = some (.lst (xs.map V.int)) → (xs.length : Int) = count → (∀ x ∈ xs, 0 ≤ x ∧ x < bound) → Q (.ref p) H'
theorem ok_law_row (T : Txt K mg) : FnOk P w K mg base CX0 1 T.f_law_row T.d_law_row ["cell", "count", "bound"] sp_law_row := by
  refine T.F_law_row.ok sc_law_row (fun vs H Q E h => ?_) (fun cdv A outer s H vs Q E hr h => ?_)
  · obtain ⟨_, _, _, rfl, _⟩ := h
    rfl
  · obtain ⟨cell, count, bound, rfl, c0, c1, b0, b1, q⟩ := h
    refine ⟨_, (pss_cons (ps_set (i := 3) sc_law_row.nd rfl (.inl rfl) (pe_callB call_abs (by rfl) T.z_abs (by decide +kernel) (pa_cons (pe_callTy call_intI (by rfl) T.z_int (by decide +kernel) (pa_cons (pv 0) pa_nil)) pa_nil)))
      (pss_cons (ps_set (i := 4) sc_law_row.nd rfl (.inl rfl) (pe_op op_add (pe_op op_mod (pe_callTy call_intI (by rfl) T.z_int (by decide +kernel) (pa_cons (pv 0) pa_nil)) pe_int) pe_int))
      (pss_cons (ps_set (i := 5) sc_law_row.nd rfl (.inl rfl) (pe_lst pa_nil))
      (pss_cons (ps_for PassesOwn.never rfl (pi_range1 (by rfl) T.z_range (pa_cons (pv 1) pa_nil)) (pg_name (i := 6) sc_law_row.nd rfl (.inl rfl))
      (pss_one (ps_if (pt_cmpR op_ge (pv 3) (pv 2) (nomark _))
      (pss_cons (ps_expr (pe_bm PySem.F.plainAttrs_list PySem.F.slot_list_append PySem.F.type_list_append mt_append (pv 5) (pa_cons (pe_op op_mod (pe_callTy call_intI (by rfl) T.z_int (by decide +kernel) (pa_cons (pv 3) pa_nil)) (pv 2)) pa_nil)))
      (pss_one (ps_set (i := 3) sc_law_row.nd rfl (.inl rfl) (pe_op op_fdiv (pv 3) (pv 2)))))
      (pss_cons (ps_set (i := 4) sc_law_row.nd rfl (.inl rfl) (pe_op op_mod (pe_callTy call_intI (by rfl) T.z_int (by decide +kernel) (pa_cons (pe_op op_add (pe_op op_add (pe_op op_mul (pv 4) pe_int) (pe_op op_mul pe_int (pv 6))) pe_int) pa_nil)) pe_int))
      (pss_one (ps_expr (pe_bm PySem.F.plainAttrs_list PySem.F.slot_list_append PySem.F.type_list_append mt_append (pv 5) (pa_cons (pe_op op_mod (pe_callTy call_intI (by rfl) T.z_int (by decide +kernel) (pa_cons (pe_op op_fdiv (pe_op op_mul (pv 4) pe_int) pe_int) pa_nil)) (pv 2)) pa_nil))))))))
      (pss_one (ps_ret (pv 5))))))), ?_⟩
    refine ⟨_, rfl, _, rfl, _, rfl, _, rfl, _, rfl, _, _, rfl, rfl, (by k_offL), _, _, rfl, rfl, Nat.zero_le _, fun p1 n1 => ?_⟩
    k_invariant "new" (n1, H1, e1, h1)
    refine ⟨_, rfl, _, rfl, by omega, by omega, for_range (lo := 0) (n := count.toNat) (fun i σ H' => ∃ (rest mixed : Int) (xs : List Int) (v : Option V), σ = [some (.int cell), some (.int count), some (.int bound), some (.int rest), some (.int mixed), some (.ref p1), v] ∧
      Same H H' ∧ H' p1 = some (.lst (xs.map V.int)) ∧ xs.length = i ∧ (∀ x ∈ xs, 0 ≤ x ∧ x < bound) ∧ 0 ≤ mixed ∧ mixed < 4294967296) ?_ ?_ ?_⟩
    · refine ⟨_, _, [], none, rfl, e1, h1, rfl, by simp, ?_, ?_⟩
      · have := Int.emod_nonneg cell (show (1000003 : Int) ≠ 0 by decide)
        omega
      · have := Int.emod_lt_of_pos cell (show (0 : Int) < 1000003 by decide)
        omega
    · rintro i σ H' hi ⟨rest, mixed, xs, v, rfl, sm, hp, hl, hx, m0, m1⟩
      refine ⟨_, rfl, _, rfl, _, _, rfl, rfl, _, rfl, ite2 (fun c => ?_) (fun c => ?_)⟩
      · refine ⟨_, rfl, .inl ⟨rfl, _, lst_of hp⟩, _, rfl, _, rfl, _, rfl, _, _, rfl, rfl, b0, _, _, _, rfl, rfl, hp, ?_, ?_⟩
        · rw [List.length_map]
          exact Nat.lt_of_lt_of_le (show xs.length < 100001 by omega) (by decide)
        · refine ⟨_, rfl, _, rfl, _, _, rfl, rfl, ⟨b0, by omega⟩, _, _, xs ++ [rest % bound], _, rfl, mutS sm n1, ?_, by simp [hl], fun x h => ?_, m0, m1⟩
          · rw [upd_same]
            simp
          · rcases List.mem_append.mp h with h | h
            · exact hx x h
            · rw [List.mem_singleton.mp h]
              exact ⟨Int.emod_nonneg _ (by omega), Int.emod_lt_of_pos _ b0⟩
      · refine ⟨_, rfl, _, _, rfl, rfl, .inr ⟨by decide, by decide⟩, _, rfl, _, _, rfl, rfl, .inl ⟨by decide, by decide⟩, _, _, rfl, rfl, _, _, rfl, rfl, _, rfl, _, _, rfl, rfl, (by k_offL), ?_⟩
        refine ⟨_, rfl, .inl ⟨rfl, _, lst_of hp⟩, _, rfl, _, _, rfl, rfl, .inr ⟨by decide, by decide⟩, _, _, rfl, rfl, ⟨by decide, by decide⟩, _, rfl, _, rfl, _, _, rfl, rfl, b0, _, _, _, rfl, rfl, hp, ?_, ?_⟩
        · rw [List.length_map]
          exact Nat.lt_of_lt_of_le (show xs.length < 100001 by omega) (by decide)
        · refine ⟨_, _, xs ++ [(mixed * 48271 + 11 * (0 + (i : Int)) + 7) % 2147483647 * 2862933555777941757 / 1024 % bound], _, rfl, mutS sm n1, ?_, by simp [hl], fun x h => ?_, Int.emod_nonneg _ (by decide), ?_⟩
          · rw [upd_same, List.map_append]
            rfl
          · rcases List.mem_append.mp h with h | h
            · exact hx x h
            · rw [List.mem_singleton.mp h]
              exact ⟨Int.emod_nonneg _ (by omega), Int.emod_lt_of_pos _ b0⟩
          · exact Int.lt_trans (Int.emod_lt_of_pos _ (by decide)) (by decide)
    · rintro σ H' ⟨rest, mixed, xs, v, rfl, sm, hp, hl, hx, _, _⟩
      exact ⟨_, rfl, q H' p1 xs n1 sm hp (by omega) hx⟩
def Good (lo : Int) (l : List Int) : Prop := l.Pairwise (· < ·) ∧ (∀ b ∈ l, lo ≤ b ∧ b ≤ 8) ∧ l.length ≤ 9
theorem pow9 : ∀ n : Nat, n ≤ 9 → 0 < (2 : Int) ^ n ∧ (2 : Int) ^ n ≤ 512 := by decide
theorem good_snoc {lo hi : Int} {l : List Int} (h1 : l.Pairwise (· < ·)) (h2 : ∀ b ∈ l, lo ≤ b ∧ b < hi) (h : lo ≤ hi) : (l ++ [hi]).Pairwise (· < ·) ∧ ∀ b ∈ l ++ [hi], lo ≤ b ∧ b < hi + 1 := by
  constructor
  · rw [List.pairwise_append]
    refine ⟨h1, by simp, fun a ha b hb => ?_⟩
    rw [List.mem_singleton.mp hb]
    exact (h2 a ha).2
  · intro b hb
    rcases List.mem_append.mp hb with hb | hb
    · have := h2 b hb
      omega
    · rw [List.mem_singleton.mp hb]
      omega
def sp_law_numbers : Sp := fun vs H Q _ => ∃ (cell : Int), vs = [.int cell] ∧
  ∀ (H' : Hp) (p pb ps : Addr) (bs ss : List Int), Same H H' → H' p = some (.tup [.ref pb, .ref ps]) → H' pb = some (.lst (bs.map V.int)) → H' ps = some (.lst (ss.map V.int)) → Good 1 bs → Good 0 ss → Q (.ref p) H'
theorem ok_law_numbers (T : Txt K mg) : FnOk P w K mg base CX0 1 T.f_law_numbers T.d_law_numbers ["cell"] sp_law_numbers := by
  refine T.F_law_numbers.ok sc_law_numbers (fun vs H Q E h => ?_) (fun cdv A outer s H vs Q E hr h => ?_)
  · obtain ⟨_, rfl, _⟩ := h
    rfl
  · obtain ⟨cell, rfl, q⟩ := h
    refine ⟨_, (pss_cons (ps_set (i := 1) sc_law_numbers.nd rfl (.inr rfl) (pe_callB call_abs (by rfl) T.z_abs (by decide +kernel) (pa_cons (pe_callTy call_intI (by rfl) T.z_int (by decide +kernel) (pa_cons (pv 0) pa_nil)) pa_nil)))
      (pss_cons (ps_setLc (i := 2) (own := [("k", 4)]) (g := gName 4) rfl sc_law_numbers.nd rfl rfl (sw_true rfl rfl rfl (by decide +kernel)) (pi_range2 (by rfl) T.z_range (pa_cons pe_int (pa_cons pe_int pa_nil))) (blkOk_by (own := [("k", 4)]) (N := N_law_numbers) (sc := defScope s_law_numbers) (by decide +kernel)) (fun _ _ _ _ _ => pg_name (i := 4) sc_law_numbers.nd rfl (Or.inl rfl)) (fun _ _ _ _ _ => pts_one (pt_cmpR op_eq (pe_op op_mod (pe_op op_fdiv (pv 1) (pe_op op_shl pe_int (pv 4))) pe_int) pe_int (nomark _))) (fun _ _ _ _ _ => (pv 4)))
      (pss_cons (ps_setLc (i := 3) (own := [("k", 4)]) (g := gName 4) rfl sc_law_numbers.nd rfl rfl (sw_true rfl rfl rfl (by decide +kernel)) (pi_range1 (by rfl) T.z_range (pa_cons pe_int pa_nil)) (blkOk_by (own := [("k", 4)]) (N := N_law_numbers) (sc := defScope s_law_numbers) (by decide +kernel)) (fun _ _ _ _ _ => pg_name (i := 4) sc_law_numbers.nd rfl (Or.inl rfl)) (fun _ _ _ _ _ => pts_one (pt_cmpR op_eq (pe_op op_mod (pe_op op_fdiv (pv 1) (pe_op op_shl pe_int (pv 4))) pe_int) pe_int (nomark _))) (fun _ _ _ _ _ => (pv 4)))
      (pss_cons (ps_if (pt_cmpR op_eq (pe_op op_mod (pe_op op_fdiv (pv 1) pe_int) pe_int) pe_int (nomark _))
      (pss_cons (ps_set (i := 2) sc_law_numbers.nd rfl (.inl rfl) (pe_ix ix_list (pe_lst (pa_cons (pe_lst (pa_cons pe_int pa_nil)) (pa_cons (pe_lst (pa_cons pe_int (pa_cons pe_int pa_nil))) (pa_cons (pe_lst (pa_cons pe_int pa_nil)) (pa_cons (pe_lst (pa_cons pe_int (pa_cons pe_int (pa_cons pe_int pa_nil)))) (pa_cons (pe_lst (pa_cons pe_int (pa_cons pe_int pa_nil))) pa_nil)))))) (pe_op op_mod (pe_op op_fdiv (pv 1) pe_int) pe_int) (fun _ _ => rfl)))
      (pss_one (ps_set (i := 3) sc_law_numbers.nd rfl (.inl rfl) (pe_ix ix_list (pe_lst (pa_cons (pe_lst (pa_cons pe_int (pa_cons pe_int pa_nil))) (pa_cons (pe_lst (pa_cons pe_int (pa_cons pe_int pa_nil))) (pa_cons (pe_lst pa_nil) (pa_cons (pe_lst (pa_cons pe_int (pa_cons pe_int (pa_cons pe_int (pa_cons pe_int pa_nil))))) (pa_cons (pe_lst (pa_cons pe_int (pa_cons pe_int (pa_cons pe_int pa_nil)))) pa_nil)))))) (pe_op op_mod (pe_op op_fdiv (pv 1) pe_int) pe_int) (fun _ _ => rfl)))))
      pss_nil)
      (pss_one (ps_ret (pe_tup (pa_cons (pv 2) (pa_cons (pv 3) pa_nil))))))))), ?_⟩
    refine ⟨_, rfl, _, rfl, _, rfl, ?_⟩
    generalize (if cell < 0 then -cell else cell) = x
    -- births
    refine ⟨1, 9, rfl, ⟨by decide, by decide, by decide, by decide⟩, fun p1 n1 => lc_range (lo := 1) (n := 8) (fun i H' => ∃ ys : List Int, Same H H' ∧ H' p1 = some (.lst (ys.map V.int)) ∧ ys.length ≤ i ∧ ys.Pairwise (· < ·) ∧ ∀ b ∈ ys, 1 ≤ b ∧ b < 1 + (i : Int))
      ⟨[], newS n1, upd_same, by simp, by simp, by simp⟩ ?_ ?_⟩
    · rintro i H' hi ⟨ys, sm, hp, hl, h1, h2⟩
      have pw := pow9 (1 + (i : Int)).toNat (by omega)
      refine ⟨rfl, _, rfl, _, rfl, _, _, rfl, rfl, ⟨by omega, by omega, by decide⟩, _, _, rfl, rfl, ⟨?_, ?_⟩, _, _, rfl, rfl, (by k_offL), rfl, _, rfl, ite2 (fun c => ?_) (fun c => ?_)⟩
      · show (0 : Int) < 1 * 2 ^ (1 + (i : Int)).toNat
        omega
      · show (1 : Int) * 2 ^ (1 + (i : Int)).toNat < 1073741824
        omega
      · have g := good_snoc h1 h2 (by omega)
        refine ⟨_, rfl, _, hp, ?_, ys ++ [1 + (i : Int)], mutS sm n1, ?_, by simp; omega, g.1, fun b hb => ?_⟩
        · rw [List.length_map]
          exact Nat.lt_of_lt_of_le (show ys.length < 100 by omega) (by decide)
        · rw [upd_same, List.map_append]
          rfl
        · have := g.2 b hb
          omega
      · exact ⟨ys, sm, hp, by omega, h1, fun b hb => by have := h2 b hb; omega⟩
    rintro H1 ⟨bs, e1, hb, lb, gb1, gb2⟩
    have gb : Good 1 bs := ⟨gb1, fun b h => by have := gb2 b h; omega, by omega⟩
    -- survival
    refine ⟨9, rfl, by decide, by decide, fun p2 n2 => lc_range (lo := 0) (n := 9) (fun i H' => ∃ ys : List Int, Same H1 H' ∧ H' p2 = some (.lst (ys.map V.int)) ∧ ys.length ≤ i ∧ ys.Pairwise (· < ·) ∧ ∀ b ∈ ys, 0 ≤ b ∧ b < 0 + (i : Int))
      ⟨[], newS n2, upd_same, by simp, by simp, by simp⟩ ?_ ?_⟩
    · rintro i H' hi ⟨ys, sm, hp, hl, h1, h2⟩
      have pw := pow9 (0 + (i : Int)).toNat (by omega)
      refine ⟨rfl, _, rfl, _, rfl, _, _, rfl, rfl, ⟨by omega, by omega, by decide⟩, _, _, rfl, rfl, ⟨?_, ?_⟩, _, _, rfl, rfl, (by k_offL), rfl, _, rfl, ite2 (fun c => ?_) (fun c => ?_)⟩
      · show (0 : Int) < 512 * 2 ^ (0 + (i : Int)).toNat
        omega
      · show (512 : Int) * 2 ^ (0 + (i : Int)).toNat < 1073741824
        omega
      · have g := good_snoc h1 h2 (by omega)
        refine ⟨_, rfl, _, hp, ?_, ys ++ [0 + (i : Int)], mutS sm n2, ?_, by simp; omega, g.1, fun b hb => ?_⟩
        · rw [List.length_map]
          exact Nat.lt_of_lt_of_le (show ys.length < 100 by omega) (by decide)
        · rw [upd_same, List.map_append]
          rfl
        · have := g.2 b hb
          omega
      · exact ⟨ys, sm, hp, by omega, h1, fun b hb => by have := h2 b hb; omega⟩
    rintro H2 ⟨ss, e2, hs, ls, gs1, gs2⟩
    have gs : Good 0 ss := ⟨gs1, fun b h => by have := gs2 b h; omega, by omega⟩
    have hb2 := getS e2 hb
    have e02 := e1.trans e2
    -- if
    refine ⟨_, rfl, _, _, rfl, rfl, ⟨by decide, by decide⟩, _, _, rfl, rfl, (by k_offL), rfl, _, rfl, ite2 (fun c => ?_) (fun c => ?_)⟩
    · refine ⟨by decide, fun a1 m1 => ?_⟩
      k_invariant "new" (m1, A1, ea1, h1)
      refine ⟨by decide, fun a2 m2 => ?_⟩
      k_invariant "new" (m2, A2, ea2, h2)
      refine ⟨by decide, fun a3 m3 => ?_⟩
      k_invariant "new" (m3, A3, ea3, h3)
      refine ⟨by decide, fun a4 m4 => ?_⟩
      k_invariant "new" (m4, A4, ea4, h4)
      refine ⟨by decide, fun a5 m5 => ?_⟩
      k_invariant "new" (m5, A5, ea5, h5)
      refine ⟨by k_clsL, fun a6 m6 => ?_⟩
      k_invariant "new" (m6, A6, ea6, h6)
      have pick : ∃ (pb : Addr) (l : List Int), atI [V.ref a1, .ref a2, .ref a3, .ref a4, .ref a5] (x / 786432 % 5) = some (.ref pb) ∧ A6 pb = some (.lst (l.map V.int)) ∧ Good 1 l := by
        have z0 := Int.emod_nonneg (x / 786432) (show (5 : Int) ≠ 0 by decide)
        have z1 := Int.emod_lt_of_pos (x / 786432) (show (0 : Int) < 5 by decide)
        generalize x / 786432 % 5 = j at z0 z1
        have : j = 0 ∨ j = 1 ∨ j = 2 ∨ j = 3 ∨ j = 4 := by omega
        rcases this with rfl | rfl | rfl | rfl | rfl
        · exact ⟨a1, [3], rfl, by k_subL, by unfold Good; decide⟩
        · exact ⟨a2, [3, 6], rfl, by k_subL, by unfold Good; decide⟩
        · exact ⟨a3, [2], rfl, by k_subL, by unfold Good; decide⟩
        · exact ⟨a4, [3, 7, 8], rfl, by k_subL, by unfold Good; decide⟩
        · exact ⟨a5, [2, 5], rfl, by k_subL, by unfold Good; decide⟩
      obtain ⟨pb, l, hpk, hl, gl⟩ := pick
      refine ⟨_, rfl, _, _, rfl, rfl, ⟨by decide, by decide⟩, _, _, rfl, rfl, (by k_offL), _, _, _, _, rfl, rfl, by k_subL, hpk, ?_⟩
      refine ⟨by decide, fun b1 m1 => ?_⟩
      k_invariant "new" (m1, B1, eb1, h1)
      refine ⟨by decide, fun b2 m2 => ?_⟩
      k_invariant "new" (m2, B2, eb2, h2)
      refine ⟨by decide, fun b3 m3 => ?_⟩
      k_invariant "new" (m3, B3, eb3, h3)
      refine ⟨by decide, fun b4 m4 => ?_⟩
      k_invariant "new" (m4, B4, eb4, h4)
      refine ⟨by decide, fun b5 m5 => ?_⟩
      k_invariant "new" (m5, B5, eb5, h5)
      refine ⟨by k_clsL, fun b6 m6 => ?_⟩
      k_invariant "new" (m6, B6, eb6, h6)
      have pick : ∃ (pb : Addr) (l : List Int), atI [V.ref b1, .ref b2, .ref b3, .ref b4, .ref b5] (x / 3932160 % 5) = some (.ref pb) ∧ B6 pb = some (.lst (l.map V.int)) ∧ Good 0 l := by
        have z0 := Int.emod_nonneg (x / 3932160) (show (5 : Int) ≠ 0 by decide)
        have z1 := Int.emod_lt_of_pos (x / 3932160) (show (0 : Int) < 5 by decide)
        generalize x / 3932160 % 5 = j at z0 z1
        have : j = 0 ∨ j = 1 ∨ j = 2 ∨ j = 3 ∨ j = 4 := by omega
        rcases this with rfl | rfl | rfl | rfl | rfl
        · exact ⟨b1, [2, 3], rfl, by k_subL, by unfold Good; decide⟩
        · exact ⟨b2, [2, 3], rfl, by k_subL, by unfold Good; decide⟩
        · exact ⟨b3, [], rfl, by k_subL, by unfold Good; decide⟩
        · exact ⟨b4, [2, 3, 4, 5], rfl, by k_subL, by unfold Good; decide⟩
        · exact ⟨b5, [3, 4, 6], rfl, by k_subL, by unfold Good; decide⟩
      obtain ⟨ps, m, hpk2, hm, gm⟩ := pick
      refine ⟨_, rfl, _, _, rfl, rfl, ⟨by decide, by decide⟩, _, _, rfl, rfl, (by k_offL), _, _, _, _, rfl, rfl, by k_subL, hpk2, ?_⟩
      refine ⟨_, rfl, _, rfl, by k_clsL, fun r nr => ?_⟩
      k_invariant "new" (nr, R1, er, hr1)
      exact q R1 r pb ps l m (e02.trans (ea1.trans (ea2.trans (ea3.trans (ea4.trans (ea5.trans (ea6.trans (eb1.trans (eb2.trans (eb3.trans (eb4.trans (eb5.trans (eb6.trans er))))))))))))) hr1 (by k_subL) (by k_subL) gl gm
    · refine ⟨_, rfl, _, rfl, by k_clsL, fun r nr => ?_⟩
      k_invariant "new" (nr, R1, er, hr1)
      exact q R1 r p1 p2 bs ss (e02.trans er) hr1 (by k_subL) (by k_subL) gb gs
/-! ### law_some: some cells of a box, ascending -/
def sp_law_some : Sp := fun vs H Q _ => ∃ (cell count h v : Int), vs = [.int cell, .int count, .int h, .int v] ∧ 0 ≤ count ∧ count ≤ 1000 ∧ 0 < h ∧ h ≤ 1000 ∧ 0 < v ∧ v ≤ 1000 ∧
  ∀ (H' : Hp) (p : Addr) (ps : List Pr), H p = none → Same H H' → Cells H' p ps → ps.Pairwise ltP → (ps.length : Int) ≤ count → (∀ x ∈ ps, 0 ≤ x.1 ∧ x.1 < h ∧ 0 ≤ x.2 ∧ x.2 < v) → Q (.ref p) H'
theorem ok_law_some (T : Txt K mg) : FnOk P w K mg base CX0 2 T.f_law_some T.d_law_some ["cell", "count", "height", "width"] sp_law_some := by
  refine T.F_law_some.ok sc_law_some (fun vs H Q E h => ?_) (fun cdv A outer s H vs Q E hr h => ?_)
  · obtain ⟨_, _, _, _, rfl, _⟩ := h
    rfl
  · obtain ⟨cell, count, h, v, rfl, c0, c1, h0, h1, v0, v1, q⟩ := h
    have hu : (A.deeper (envOfC (Str.ofString "_law_some") (defScope s_law_some) s.heap.objs.size T.f_law_some cdv)).units + 1 < cLine := by
      have := hr.units
      omega
    refine ⟨_, (pss_cons (ps_set (i := 4) sc_law_some.nd rfl (.inl rfl) (pe_callB call_abs (by rfl) T.z_abs (by decide +kernel) (pa_cons (pe_callTy call_intI (by rfl) T.z_int (by decide +kernel) (pa_cons (pv 0) pa_nil)) pa_nil)))
      (pss_cons (ps_set (i := 5) sc_law_some.nd rfl (.inl rfl) pe_dnewT)
      (pss_cons (ps_for PassesOwn.never rfl (pi_list (pe_call (ok_law_row T) (hr.mono (by decide)) (by rfl) T.g_law_row T.F_law_row.kp T.b_law_row .nil pass0 (pa_cons (pv 0) (pa_cons (pv 1) (pa_cons (pe_op op_mul (pv 2) (pv 3)) pa_nil))))) (pg_name (i := 6) sc_law_some.nd rfl (.inl rfl))
      (pss_one (ps_dput hu (pv 5) (pe_tup (pa_cons (pe_op op_fdiv (pv 6) (pv 3)) (pa_cons (pe_op op_mod (pv 6) (pv 3)) pa_nil))) pe_bl rfl)))
      (pss_one (ps_ret (pe_callB cr_sortedC (by rfl) T.z_sorted (by decide +kernel) (pa_cons (pe_lock (pe_lc (own := [("place", 7)]) (g := gName 7) (tt := tYes) rfl sc_law_some.nd (pi_keys (pv 5)) (blkOk_by (own := [("place", 7)]) (N := N_law_some) (sc := defScope s_law_some) (by decide +kernel)) (fun _ _ _ _ _ => pg_name (i := 7) sc_law_some.nd rfl (Or.inl rfl)) (fun _ _ _ _ _ => pts_nil) (fun _ _ _ _ _ => (pv 7)))) pa_nil))))))), ?_⟩
    have b0 : 0 < h * v := Int.mul_pos h0 v0
    have b1 : h * v < 1000000000 := by
      have := Int.mul_le_mul h1 v1 (by omega) (by decide)
      omega
    refine ⟨_, rfl, _, rfl, _, rfl, fun d nd => ?_⟩
    k_invariant "new" (nd, H1, e1, g1)
    refine ⟨_, rfl, _, rfl, _, rfl, _, rfl, _, _, rfl, rfl, (by k_offL), _, _, _, rfl, c0, by omega, b0, b1, fun H2 p2 xs n2 e2 g2 l2 m2 => ?_⟩
    have nd2 : d ≠ p2 := neS g1 (fun _ _ z => z) n2
    refine ⟨p2, rfl, ⟨_, lst_of g2⟩, for_list (K := K) (a := p2) (xs := xs.map V.int) (fun i σ H' => Same H H' ∧ H' p2 = some (.lst (xs.map V.int)) ∧ (∃ (x y z : Option V), σ = [some (.int cell), some (.int count), some (.int h), some (.int v), x, some (.ref d), y, z]) ∧ ∃ kvs ps, H' d = some (.dT kvs) ∧ KeysP kvs ps ∧ ps.length ≤ i ∧ ∀ x ∈ ps, 0 ≤ x.1 ∧ x.1 < h ∧ 0 ≤ x.2 ∧ x.2 < v)
      ⟨e1.trans e2, g2, ⟨_, _, _, rfl⟩, [], [], e2 _ _ g1, ⟨rfl, List.nodup_nil⟩, Nat.le_refl _, fun _ m => (by cases m)⟩ (fun i σ H' _ p => lst_of p.2.1) ?_ ?_⟩
    · rintro i z σ H' hi ⟨sm, gp, ⟨x, y, z1, rfl⟩, kvs, ps, gd, hK, lp, bd⟩
      obtain ⟨n, rfl, _, mn⟩ := item_ints hi
      have bn := m2 n mn
      have li := (List.getElem?_eq_some_iff.mp hi).1
      rw [List.length_map] at li
      refine ⟨_, rfl, _, rfl, _, rfl, _, _, rfl, rfl, ⟨v0, by omega⟩, _, rfl, _, rfl, _, _, rfl, rfl, v0, (by k_clsL), fun t nt => ?_⟩
      have ntd : t ≠ d := fun e => by
        rw [e, gd] at nt
        cases nt
      have ntp : p2 ≠ d := fun e => by
        rw [e, gd] at gp
        cases gp
      obtain ⟨qs, hQ, lq, mq⟩ := hK.put (n / v, n % v) (.bl true)
      refine ⟨d, _, rfl, DPut.t (k := keyP (n / v, n % v)) (newS nt _ _ gd) upd_same (by rw [hK.len, sizeLine_eq]; omega), mutS (sm.trans (newS nt)) nd, ?_, ⟨_, _, _, rfl⟩, _, qs, upd_same, hQ, by omega, fun x m => ?_⟩
      · rw [upd_ne ntp]
        exact newS nt _ _ gp
      · rcases (mq x).mp m with m | e
        · exact bd x m
        · rw [e]
          exact ⟨Int.ediv_nonneg bn.1 (by omega), Int.ediv_lt_of_lt_mul v0 bn.2, Int.emod_nonneg _ (by omega), Int.emod_lt_of_pos _ v0⟩
    · rintro σ H' ⟨sm, gp, ⟨x, y, z1, rfl⟩, kvs, ps, gd, hK, lp, bd⟩
      rw [List.length_map] at lp
      refine ⟨d, _, gd, trivial, fun od => ⟨_, rfl, d, od, rfl, .inr ⟨kvs, upd_same, fun D nD => lc_keysP hK upd_same nD (by rw [sizeLine_eq]; omega) ?_ fun H3 e3 g3 => ?_⟩⟩⟩
      · intro t x H' Po Pn ht hq
        exact ⟨rfl, tyesT ⟨_, rfl, hq⟩⟩
      · have gd3 : H3 d = some (.frz od (.dT kvs)) := e3 _ _ upd_same
        have s3 : Same H (upd H3 d (.dT kvs)) := mutS ((mutS sm nd).trans e3) nd
        have neD : D ≠ d := fun e => by
          rw [e, upd_same] at nD
          cases nD
        refine ⟨gd3, D, ps, rfl, g3.mut neD (fun xs e => ?_), hK.2, fun p H4 qs e4 n4 h4 c4 l4 => q H4 p qs (backS s3 n4) (s3.trans e4) h4 c4.1 (by omega) fun x m => bd x ((c4.2 x).mp m)⟩
        rw [gd3] at e
        cases e
/-! ### what the law says of an answer -/
def sp_law_integer : Sp := fun vs H Q _ => ∃ i : Int, vs = [.int i] ∧ Q (.bl true) H
theorem ok_law_integer (T : Txt K mg) : FnOk P w K mg base CX0 1 T.f_law_integer T.d_law_integer ["value"] sp_law_integer := by
  refine T.F_law_integer.ok sc_law_integer (fun vs H Q E h => ?_) (fun cdv A outer s H vs Q E hr h => ?_)
  · obtain ⟨_, rfl, _⟩ := h
    rfl
  · obtain ⟨i, rfl, q⟩ := h
    refine ⟨_, (pss_one (ps_ret (pe_and (pe_callB call_isi (by rfl) T.z_isinstance (by decide +kernel) (pa_cons (pv 0) (pa_cons (pe_bltn (v := .ty "int") (by rfl) T.z_int (by decide +kernel) rfl) pa_nil))) (pe_one (pe_not (pe_callB call_isi (by rfl) T.z_isinstance (by decide +kernel) (pa_cons (pv 0) (pa_cons (pe_bltn (v := .ty "bool") (by rfl) T.z_bool (by decide +kernel) rfl) pa_nil)))))))), ?_⟩
    exact ⟨_, rfl, _, _, _, _, _, rfl, .ty _, .base (.int _), rfl, _, rfl, _, rfl, _, _, _, _, _, rfl, .ty _, .base (.int _), rfl, _, rfl, q⟩
def sp_law_cells : Sp := fun vs H Q _ => ∃ (l : Addr) (ps : List Pr), vs = [.ref l] ∧ Cells H l ps ∧ ps.Pairwise ltP ∧ ∀ H', Same H H' → Q (.bl true) H'
theorem ok_law_cells (T : Txt K mg) : FnOk P w K mg base CX0 2 T.f_law_cells T.d_law_cells ["value"] sp_law_cells := by
  refine T.F_law_cells.ok sc_law_cells (fun vs H Q E h => ?_) (fun cdv A outer s H vs Q E hr h => ?_)
  · obtain ⟨_, _, rfl, _⟩ := h
    rfl
  · obtain ⟨l, ps, rfl, hC, pw, q⟩ := h
    refine ⟨_, (pss_cons (ps_if (pt_not (pt_val (pe_callB call_isi (by rfl) T.z_isinstance (by decide +kernel) (pa_cons (pv 0) (pa_cons (pe_bltn (v := .ty "list") (by rfl) T.z_list (by decide +kernel) rfl) pa_nil)))))
      (pss_one (ps_ret pe_bl))
      pss_nil)
      (pss_cons (ps_for PassesOwn.never rfl (pi_list (pv 0)) (pg_name (i := 1) sc_law_cells.nd rfl (.inl rfl))
      (pss_one (ps_if (PW.pt (pw_or (pt_not (pt_val (pe_callB call_isi (by rfl) T.z_isinstance (by decide +kernel) (pa_cons (pv 1) (pa_cons (pe_bltn (v := .ty "tuple") (by rfl) T.z_tuple (by decide +kernel) rfl) pa_nil))))) (pw_or (pt_cmpR op_ne (pe_callB call_lenU (by rfl) T.z_len (by decide +kernel) (pa_cons (pv 1) pa_nil)) pe_int (nomark _)) (pw_or (pt_not (pt_val (pe_call (ok_law_integer T) (hr.mono (by decide)) (by rfl) T.g_law_integer T.F_law_integer.kp T.b_law_integer .nil pass0 (pa_cons (pe_ix (ix_tupK (K := K) rfl) (pv 1) pe_int (fun _ _ => rfl)) pa_nil)))) (pw_or1 (pt_not (pt_val (pe_call (ok_law_integer T) (hr.mono (by decide)) (by rfl) T.g_law_integer T.F_law_integer.kp T.b_law_integer .nil pass0 (pa_cons (pe_ix (ix_tupK (K := K) rfl) (pv 1) pe_int (fun _ _ => rfl)) pa_nil)))))))))
      (pss_one (ps_ret pe_bl))
      pss_nil)))
      (pss_one (ps_ret (pe_cmpR (op_eqD hr.units) (pv 0) (pe_callB cr_sortedC (by rfl) T.z_sorted (by decide +kernel) (pa_cons (pv 0) pa_nil)) (nomark _)))))), ?_⟩
    obtain ⟨ts, hl, ht, rfl⟩ := id hC
    refine ⟨_, rfl, _, _, _, _, _, rfl, .ty _, .base (.lst hl), rfl, ?_⟩
    refine ⟨_, rfl, _, rfl, l, rfl, ⟨_, lst_of hl⟩, for_list (K := K) (a := l) (xs := ts.map fun t => V.ref t.1) (fun i σ H' => H' = H ∧ ∃ v : Option V, σ = [some (.ref l), v]) ⟨rfl, _, rfl⟩ (fun i σ H' _ p => by rw [p.1]; exact lst_of hl) ?_ ?_⟩
    · rintro i x σ H' hi ⟨rfl, v, rfl⟩
      obtain ⟨t, mt, rfl, _⟩ := item_cells (H := H') hi rfl
      have g := ht t mt
      refine ⟨_, rfl, _, _, _, _, _, rfl, .ty _, .base (.tup g), rfl, ?_⟩
      refine ⟨_, rfl, _, rfl, _, _, rfl, tup_of g, rfl, _, rfl, iteF ?_⟩
      refine ⟨_, rfl, _, _, _, _, rfl, rfl, tup_of g, rfl, _, rfl, _, rfl, iteF ?_⟩
      refine ⟨_, rfl, _, _, _, _, rfl, rfl, tup_of g, rfl, _, rfl, _, rfl, iteF ?_⟩
      exact ⟨rfl, _, rfl⟩
    · rintro σ H' ⟨rfl, v, rfl⟩
      refine ⟨_, rfl, _, rfl, _, _, rfl, hC, nodup_lt pw, fun p H1 qs e1 n1 h1 c1 l1 => ⟨_, _, dp_cells (hC.up e1), dp_cells h1, shaped_cells _, shaped_cells _, ?_⟩⟩
      rw [eqv_cells, canP_eq c1 pw fun _ => Iff.rfl, decide_eq_true rfl]
      exact q H1 e1
end
end My
namespace My
open PySem PySem.Spec PyProof.Rows L2 Vx
open TL
local macro_rules | `(tactic| k_invariant "new" ($n, $H:ident, $e:ident, $h:ident)) => `(tactic| (generalize hE : upd _ _ _ = $H; obtain ⟨$e:ident, $h:ident⟩ := gen_e hE $n; clear hE))
local macro_rules | `(tactic| k_places) => `(tactic| first
  | assumption
  | exact lst_of (by assumption)
  | exact tup_of (by assumption)
  | (refine getS (by assumption) ?_; k_places)
  | (refine Same.seq (by assumption) ?_; k_places)
  | (refine tupS (by assumption) ?_; k_places)
  | (refine lst_of ?_; k_places)
  | (refine tup_of ?_; k_places))
local macro_rules | `(tactic| k_subL) => `(tactic| first
  | k_places
  | solve_by_elim (maxDepth := 10) [getS, lst_of, tup_of, Same.seq, tupS])
local macro_rules | `(tactic| k_offL) => `(tactic| first
  | (show (0 : Int) < _; first | omega | decide)
  | (refine ⟨?_, ?_⟩ <;> first | omega | decide)
  | exact .inr ⟨by decide, by decide⟩
  | exact .inl ⟨by decide, by decide⟩
  | exact .inl ⟨by omega, by omega⟩
  | omega)
local macro_rules | `(tactic| k_clsL) => `(tactic| exact Nat.le_of_ble_eq_true rfl)
local macro_rules | `(tactic| k_upd) => `(tactic| simp only [L2.start, List.map_cons, List.map_nil, List.length_cons, List.length_nil, List.replicate_succ, List.replicate_zero, List.cons_append, List.nil_append, List.set_cons_zero, List.set_cons_succ])
section
variable {P : Program} {w : World} {K : PySem.W.Frag} {mg : Str → Option Value} {base : Heap}
def memL (ps : List Pr) (r c : Int) : Bool := decide ((r, c) ∈ ps)
theorem stepL_near {bs ss : List Int} {L : Int → Int → Bool} {r c : Int} (hb : ∀ b ∈ bs, 1 ≤ b ∧ b ≤ 8) (h : stepL bs ss L r c = true) : ∃ r' c', r - 1 ≤ r' ∧ r' ≤ r + 1 ∧ c - 1 ≤ c' ∧ c' ≤ c + 1 ∧ L r' c' = true := by
  by_cases z : L r c = true
  · exact ⟨r, c, by omega, by omega, by omega, by omega, z⟩
  · unfold stepL at h
    rw [if_neg z] at h
    have m := hb _ (of_decide_eq_true h)
    refine Classical.byContradiction fun no => ?_
    have off : ∀ r' c', r - 1 ≤ r' → r' ≤ r + 1 → c - 1 ≤ c' → c' ≤ c + 1 → L r' c' = false := fun r' c' a1 a2 a3 a4 => by
      cases e : L r' c' with
      | false => rfl
      | true => exact absurd ⟨r', c', a1, a2, a3, a4, e⟩ no
    have e : nb L r c = 0 := by
      unfold nb
      rw [off (r - 1) (c - 1), off (r - 1) c, off (r - 1) (c + 1), off r (c - 1), off r (c + 1), off (r + 1) (c - 1), off (r + 1) c, off (r + 1) (c + 1)] <;> first | rfl | omega
    rw [e] at m
    omega
theorem stepL_congr {bs ss : List Int} {L M : Int → Int → Bool} (h : ∀ r c, L r c = M r c) (r c : Int) : stepL bs ss L r c = stepL bs ss M r c := by
  have e : L = M := funext fun r => funext fun c => h r c
  rw [e]
theorem gen_box {bs ss : List Int} {L : Int → Int → Bool} {r0 r1 c0 c1 : Int} (hb : ∀ b ∈ bs, 1 ≤ b ∧ b ≤ 8) (h : ∀ r c, L r c = true → r0 ≤ r ∧ r ≤ r1 ∧ c0 ≤ c ∧ c ≤ c1) :
    ∀ n r c, genL bs ss L n r c = true → r0 - (n : Int) ≤ r ∧ r ≤ r1 + n ∧ c0 - (n : Int) ≤ c ∧ c ≤ c1 + n
  | 0, r, c, z => by
    have := h r c z
    omega
  | n + 1, r, c, z => by
    obtain ⟨r', c', a1, a2, a3, a4, z'⟩ := stepL_near hb z
    have := gen_box hb h n r' c' z'
    omega
theorem memL_congr {ps qs : List Pr} (h : ∀ x, x ∈ ps ↔ x ∈ qs) : memL ps = memL qs := funext fun r => funext fun c => by
  unfold memL
  rw [Bool.eq_iff_iff, decide_eq_true_iff, decide_eq_true_iff, h]
theorem box_lenN {ps : List Pr} {lo : Int} {w : Nat} (nd : ps.Nodup) (h : ∀ x ∈ ps, lo ≤ x.1 ∧ x.1 < lo + (w : Int) ∧ lo ≤ x.2 ∧ x.2 < lo + (w : Int)) : ps.length ≤ w * w := by
  have nd2 : (ps.map fun x => (x.1 - lo).toNat * w + (x.2 - lo).toNat).Nodup := by
    refine List.pairwise_map.mpr (nd.imp_of_mem fun {x y} mx my ne e => ne ?_)
    obtain ⟨a1, a2, a3, a4⟩ := h x mx
    obtain ⟨b1, b2, b3, b4⟩ := h y my
    have c1 : (x.2 - lo).toNat < w := by omega
    have c2 : (y.2 - lo).toNat < w := by omega
    have m1 : ((x.1 - lo).toNat * w + (x.2 - lo).toNat) / w = (x.1 - lo).toNat := by
      rw [Nat.mul_comm, Nat.mul_add_div (by omega), Nat.div_eq_of_lt c1, Nat.add_zero]
    have m2 : ((y.1 - lo).toNat * w + (y.2 - lo).toNat) / w = (y.1 - lo).toNat := by
      rw [Nat.mul_comm, Nat.mul_add_div (by omega), Nat.div_eq_of_lt c2, Nat.add_zero]
    have e1 : (x.1 - lo).toNat = (y.1 - lo).toNat := by rw [← m1, ← m2, e]
    rw [e1] at e
    exact Prod.ext (by omega) (by omega)
  have := nat_nodup_len _ (List.range (w * w)) nd2 fun k m => by
    obtain ⟨x, mx, rfl⟩ := List.mem_map.mp m
    obtain ⟨a1, a2, a3, a4⟩ := h x mx
    have c0 : (x.1 - lo).toNat + 1 ≤ w := by omega
    have c1 : (x.2 - lo).toNat < w := by omega
    rw [List.mem_range]
    have := Nat.mul_le_mul_right w c0
    rw [Nat.add_mul, Nat.one_mul] at this
    omega
  rwa [List.length_map, List.length_range] at this
/-! ### the law's own next generation -/
def nbq (qs : List Pr) (r c : Int) : Nat :=
  qs.count (r - 1, c - 1) + qs.count (r - 1, c) + qs.count (r - 1, c + 1) + qs.count (r, c - 1) + qs.count (r, c + 1) + qs.count (r + 1, c - 1) + qs.count (r + 1, c) + qs.count (r + 1, c + 1)
def nbr (y x : Pr) : Prop := y.1 - 1 ≤ x.1 ∧ x.1 ≤ y.1 + 1 ∧ y.2 - 1 ≤ x.2 ∧ x.2 ≤ y.2 + 1 ∧ x ≠ y
theorem nbq_nb {qs : List Pr} (nd : qs.Nodup) (r c : Int) : nbq qs r c = nb (memL qs) r c := by
  have e : ∀ p : Pr, qs.count p = (memL qs p.1 p.2).toNat := fun p => by
    unfold memL
    rw [List.Nodup.count nd]
    by_cases m : p ∈ qs
    · rw [if_pos m, decide_eq_true m]
      rfl
    · rw [if_neg m, decide_eq_false m]
      rfl
  unfold nbq nb
  rw [e, e, e, e, e, e, e, e]
theorem nbq_snoc (qs : List Pr) (y : Pr) (r c : Int) [Decidable (nbr y (r, c))] : nbq (qs ++ [y]) r c = nbq qs r c + if nbr y (r, c) then 1 else 0 := by
  have one : ∀ p : Pr, (qs ++ [y]).count p = qs.count p + if y = p then 1 else 0 := fun p => by
    rw [List.count_append, List.count_singleton]
    by_cases e : y = p
    · subst e
      simp
    · simp [e]
  obtain ⟨a, b⟩ := y
  unfold nbq
  rw [one, one, one, one, one, one, one, one]
  simp only [Prod.mk.injEq]
  by_cases h : nbr (a, b) (r, c)
  · rw [if_pos h]
    obtain ⟨h1, h2, h3, h4, h5⟩ := h
    have h5 : ¬ (r = a ∧ c = b) := fun z => h5 (Prod.ext z.1 z.2)
    dsimp only at h1 h2 h3 h4
    have c1 : a = r - 1 ∨ a = r ∨ a = r + 1 := by omega
    have c2 : b = c - 1 ∨ b = c ∨ b = c + 1 := by omega
    rcases c1 with e1 | e1 | e1 <;> rcases c2 with e2 | e2 | e2 <;> first
      | (exfalso; omega)
      | ((repeat (first | rw [if_neg (by omega)] | rw [if_pos (by omega)])); omega)
  · rw [if_neg h]
    have off : ∀ i j : Int, r - 1 ≤ i → i ≤ r + 1 → c - 1 ≤ j → j ≤ c + 1 → ¬ (i = r ∧ j = c) → ¬ (a = i ∧ b = j) := fun i j h1 h2 h3 h4 h5 h6 => h ⟨by dsimp only; omega, by dsimp only; omega, by dsimp only; omega, by dsimp only; omega, fun z => h5 (by
      have z1 : r = a := congrArg Prod.fst z
      have z2 : c = b := congrArg Prod.snd z
      omega)⟩
    rw [if_neg (off _ _ (by omega) (by omega) (by omega) (by omega) (by omega)), if_neg (off _ _ (by omega) (by omega) (by omega) (by omega) (by omega)), if_neg (off _ _ (by omega) (by omega) (by omega) (by omega) (by omega)), if_neg (off _ _ (by omega) (by omega) (by omega) (by omega) (by omega)),
      if_neg (off _ _ (by omega) (by omega) (by omega) (by omega) (by omega)), if_neg (off _ _ (by omega) (by omega) (by omega) (by omega) (by omega)), if_neg (off _ _ (by omega) (by omega) (by omega) (by omega) (by omega)), if_neg (off _ _ (by omega) (by omega) (by omega) (by omega) (by omega))]
    omega
end
end My
namespace My
open PySem PySem.Spec PyProof.Rows L2 Vx
open TL
local macro_rules | `(tactic| k_invariant "new" ($n, $H:ident, $e:ident, $h:ident)) => `(tactic| (generalize hE : upd _ _ _ = $H; obtain ⟨$e:ident, $h:ident⟩ := gen_e hE $n; clear hE))
local macro_rules | `(tactic| k_places) => `(tactic| first
  | assumption
  | exact lst_of (by assumption)
  | exact tup_of (by assumption)
  | (refine getS (by assumption) ?_; k_places)
  | (refine Same.seq (by assumption) ?_; k_places)
  | (refine tupS (by assumption) ?_; k_places)
  | (refine lst_of ?_; k_places)
  | (refine tup_of ?_; k_places))
local macro_rules | `(tactic| k_subL) => `(tactic| first
  | k_places
  | solve_by_elim (maxDepth := 10) [getS, lst_of, tup_of, Same.seq, tupS])
local macro_rules | `(tactic| k_offL) => `(tactic| first
  | (show (0 : Int) < _; first | omega | decide)
  | (refine ⟨?_, ?_⟩ <;> first | omega | decide)
  | exact .inr ⟨by decide, by decide⟩
  | exact .inl ⟨by decide, by decide⟩
  | exact .inl ⟨by omega, by omega⟩
  | omega)
local macro_rules | `(tactic| k_clsL) => `(tactic| exact Nat.le_of_ble_eq_true rfl)
local macro_rules | `(tactic| k_upd) => `(tactic| simp only [L2.start, List.map_cons, List.map_nil, List.length_cons, List.length_nil, List.replicate_succ, List.replicate_zero, List.cons_append, List.nil_append, List.set_cons_zero, List.set_cons_succ])
section
variable {P : Program} {w : World} {K : PySem.W.Frag} {mg : Str → Option Value} {base : Heap}
theorem nbq_zero {qs : List Pr} {x : Pr} (h : ∀ y ∈ qs, ¬ nbr y x) : nbq qs x.1 x.2 = 0 := by
  have z : ∀ p : Pr, nbr p x → qs.count p = 0 := fun p hp => List.count_eq_zero.mpr fun m => h p m hp
  obtain ⟨r, c⟩ := x
  have ne : ∀ i j : Int, ¬ (i = r ∧ j = c) → ((r, c) : Pr) ≠ (i, j) := fun i j h e => h ⟨(congrArg Prod.fst e).symm, (congrArg Prod.snd e).symm⟩
  have q : ∀ i j : Int, r - 1 ≤ i → i ≤ r + 1 → c - 1 ≤ j → j ≤ c + 1 → ¬ (i = r ∧ j = c) → qs.count ((i, j) : Pr) = 0 := fun i j a1 a2 a3 a4 a5 =>
    z (i, j) ⟨by dsimp only; omega, by dsimp only; omega, by dsimp only; omega, by dsimp only; omega, ne i j a5⟩
  unfold nbq
  dsimp only
  rw [q _ _ (by omega) (by omega) (by omega) (by omega) (by omega), q _ _ (by omega) (by omega) (by omega) (by omega) (by omega), q _ _ (by omega) (by omega) (by omega) (by omega) (by omega), q _ _ (by omega) (by omega) (by omega) (by omega) (by omega),
    q _ _ (by omega) (by omega) (by omega) (by omega) (by omega), q _ _ (by omega) (by omega) (by omega) (by omega) (by omega), q _ _ (by omega) (by omega) (by omega) (by omega) (by omega), q _ _ (by omega) (by omega) (by omega) (by omega) (by omega)]
theorem cnt_get {ks : List Pr} {g : Pr → Nat} {x : Pr} (h : x ∉ ks → g x = 0) : (if x ∈ ks then some (V.int ((g x : Nat) : Int)) else none).getD (.int 0) = .int ((g x : Nat) : Int) := by
  by_cases m : x ∈ ks
  · rw [if_pos m]
    rfl
  · rw [if_neg m, h m]
    rfl
theorem three {r : Int} {a : Nat} {v : V} (h : [V.int (r - 1), .int r, .int (r + 1)][a]? = some v) : v = .int (r - 1 + (a : Int)) ∧ a < 3 := by
  match a, h with
  | 0, h => exact ⟨(Option.some.inj h).symm.trans (by rw [show r - 1 + ((0 : Nat) : Int) = r - 1 by omega]), by decide⟩
  | 1, h => exact ⟨(Option.some.inj h).symm.trans (by rw [show r - 1 + ((1 : Nat) : Int) = r by omega]), by decide⟩
  | 2, h => exact ⟨(Option.some.inj h).symm.trans (by rw [show r - 1 + ((2 : Nat) : Int) = r + 1 by omega]), by decide⟩
  | _ + 3, h => cases h
theorem neT {i j : Int} (h : (!decide (V.int i = V.int j)) = true) : ¬ i = j := fun e => by
  rw [e] at h
  simp at h
theorem neF {i j : Int} (h : ¬ (!decide (V.int i = V.int j)) = true) : i = j := by
  simp at h
  exact h
def doneB (a b : Nat) (y x : Pr) : Prop := nbr y x ∧ (x.1 < y.1 - 1 + (a : Int) ∨ (x.1 = y.1 - 1 + (a : Int) ∧ x.2 < y.2 - 1 + (b : Int)))
instance (y x : Pr) : Decidable (nbr y x) := inferInstanceAs (Decidable (_ ∧ _))
instance (a b : Nat) (y x : Pr) : Decidable (doneB a b y x) := inferInstanceAs (Decidable (_ ∧ _))
def sp_law_next : Sp := fun vs H Q _ => ∃ (l lb ls : Addr) (ps : List Pr) (bs ss : List Int), vs = [.ref l, .ref lb, .ref ls] ∧ Cells H l ps ∧ H lb = some (.lst (bs.map V.int)) ∧ H ls = some (.lst (ss.map V.int)) ∧ (∀ b ∈ bs, 1 ≤ b ∧ b ≤ 8) ∧ ps.length < 100000 ∧
  ∀ (H' : Hp) (p : Addr) (qs : List Pr), H p = none → Same H H' → Cells H' p qs → qs.Pairwise ltP → (∀ x, x ∈ qs ↔ stepL bs ss (memL ps) x.1 x.2 = true) → Q (.ref p) H'
theorem ok_law_next (T : Txt K mg) : FnOk P w K mg base CX0 1 T.f_law_next T.d_law_next ["cells", "births", "survival"] sp_law_next := by
  refine T.F_law_next.ok sc_law_next (fun vs H Q E h => ?_) (fun cdv A outer s H vs Q E hr h => ?_)
  · obtain ⟨_, _, _, _, _, _, rfl, _⟩ := h
    rfl
  · obtain ⟨l, lb, ls, ps, bs, ss, rfl, hC, hB, hS, hb, few, q⟩ := h
    have hu : (A.deeper (envOfC (Str.ofString "_law_next") (defScope s_law_next) s.heap.objs.size T.f_law_next cdv)).units + 1 < cLine := by
      have := hr.units
      omega
    refine ⟨_, (pss_cons (ps_set (i := 3) sc_law_next.nd rfl (.inl rfl) pe_dnewT)
      (pss_cons (ps_set (i := 4) sc_law_next.nd rfl (.inl rfl) pe_dnewT)
      (pss_cons (ps_for PassesOwn.never rfl (pi_list (pv 0)) (pg_tupK (K := K) (n := 2) rfl rfl (pgs_cons (pg_name (i := 5) sc_law_next.nd rfl (.inl rfl)) (pgs_cons (pg_name (i := 6) sc_law_next.nd rfl (.inl rfl)) pgs_nil)))
      (pss_one (ps_dput hu (pv 4) (pe_tup (pa_cons (pv 5) (pa_cons (pv 6) pa_nil))) pe_bl rfl)))
      (pss_cons (ps_lock (ps_for PassesOwn.never rfl (pi_keys (pv 4)) (pg_tupK (K := K) (n := 2) rfl rfl (pgs_cons (pg_name (i := 5) sc_law_next.nd rfl (.inl rfl)) (pgs_cons (pg_name (i := 6) sc_law_next.nd rfl (.inl rfl)) pgs_nil)))
      (pss_cons (ps_dput hu (pv 3) (pe_tup (pa_cons (pv 5) (pa_cons (pv 6) pa_nil))) (pe_dget2 hu (pv 3) (pe_tup (pa_cons (pv 5) (pa_cons (pv 6) pa_nil))) pe_int ⟨rfl, rfl, rfl, rfl⟩) rfl)
      (pss_one (ps_for PassesOwn.never rfl (pi_list (pe_lst (pa_cons (pe_op op_sub (pv 5) pe_int) (pa_cons (pv 5) (pa_cons (pe_op op_add (pv 5) pe_int) pa_nil))))) (pg_name (i := 7) sc_law_next.nd rfl (.inl rfl))
      (pss_one (ps_for PassesOwn.never rfl (pi_list (pe_lst (pa_cons (pe_op op_sub (pv 6) pe_int) (pa_cons (pv 6) (pa_cons (pe_op op_add (pv 6) pe_int) pa_nil))))) (pg_name (i := 8) sc_law_next.nd rfl (.inl rfl))
      (pss_one (ps_if (PW.pt (pw_or (pt_cmpR op_ne (pv 7) (pv 5) (nomark _)) (pw_or1 (pt_cmpR op_ne (pv 8) (pv 6) (nomark _)))))
      (pss_one (ps_dput hu (pv 3) (pe_tup (pa_cons (pv 7) (pa_cons (pv 8) pa_nil))) (pe_op op_add (pe_dget2 hu (pv 3) (pe_tup (pa_cons (pv 7) (pa_cons (pv 8) pa_nil))) pe_int ⟨rfl, rfl, rfl, rfl⟩) pe_int) rfl))
      pss_nil)))))))))
      (pss_cons (ps_set (i := 9) sc_law_next.nd rfl (.inl rfl) (pe_lst pa_nil))
      (pss_cons (ps_lock (ps_for PassesOwn.never rfl (pi_keys (pv 3)) (pg_name (i := 10) sc_law_next.nd rfl (.inl rfl))
      (pss_one (ps_if (PW.pt (pw_or (PW.pt (pw_and (pt_cmp (pc_din hu (pv 10) (pv 4))) (pw_and1 (pt_cmpR op_in_seq (pe_dget hu (pv 3) (pv 10) (fun _ _ => rfl)) (pv 2) rfl)))) (pw_or1 (PW.pt (pw_and (pt_cmp (pc_dnotin hu (pv 10) (pv 4))) (pw_and1 (pt_cmpR op_in_seq (pe_dget hu (pv 3) (pv 10) (fun _ _ => rfl)) (pv 1) rfl)))))))
      (pss_one (ps_expr (pe_bm PySem.F.plainAttrs_list PySem.F.slot_list_append PySem.F.type_list_append mt_append (pv 9) (pa_cons (pv 10) pa_nil))))
      pss_nil))))
      (pss_one (ps_ret (pe_callB cr_sortedC (by rfl) T.z_sorted (by decide +kernel) (pa_cons (pv 9) pa_nil)))))))))), ?_⟩
    k_upd
    refine fun cd ncd => ?_
    k_invariant "new" (ncd, H1, e1, g1)
    k_upd
    refine fun ad nad => ?_
    k_invariant "new" (nad, H2, e2, g2)
    k_upd
    have ncad : cd ≠ ad := ne_of_none g1 nad
    have g1 := e2 _ _ g1
    obtain ⟨ts, hl, ht, ets⟩ := id hC
    have lts : ts.length = ps.length := by rw [← ets, List.length_map]
    have s02 := e1.trans e2
    refine ⟨_, rfl, l, rfl, ⟨_, lst_of (s02 _ _ hl)⟩, ?_⟩
    refine for_list (K := K) (a := l) (xs := ts.map fun t => V.ref t.1) (fun i σ H' => Same H1 H' ∧ (∃ x5 x6 : Option V, σ = [some (.ref l), some (.ref lb), some (.ref ls), some (.ref cd), some (.ref ad), x5, x6, none, none, none, none]) ∧
      ∃ qs, Dct H' ad qs (fun _ => .bl true) ∧ (∀ x, x ∈ qs ↔ x ∈ ps.take i) ∧ qs.length ≤ i)
      ⟨e2, ⟨_, _, rfl⟩, [], Dct.new _ g2, fun x => by simp, Nat.le_refl _⟩ (fun i σ H' _ p => lst_of (p.1 _ _ (e1 _ _ hl))) ?_ ?_
    · rintro i x σ H' hi ⟨sm, ⟨x5, x6, rfl⟩, qs, hD, mem, lq⟩
      obtain ⟨t, mt, rfl, hx⟩ := item_cells (H := H') hi rfl
      rw [ets] at hx
      have li : i < ps.length := (List.getElem?_eq_some_iff.mp hx).1
      have ht' := sm _ _ (e1 _ _ (ht t mt))
      refine ⟨t.1, _, rfl, tup_of ht', rfl, _, _, rfl, _, _, rfl, rfl, ?_⟩
      k_upd
      refine ⟨_, rfl, _, rfl, _, rfl, (by k_clsL), fun p4 n4 => ?_⟩
      k_invariant "new" (n4, H4, e4, g4)
      obtain ⟨H5, dp, pa⟩ := (hD.up e4).dput (x := t.2) (by rw [sizeLine_eq]; omega) g4 (.bl true)
      refine ⟨ad, H5, rfl, dp, pa.mut (sm.trans e4) nad, ⟨_, _, rfl⟩, addK qs t.2, pa.1.congr fun y _ => ?_, fun x => ?_, Nat.le_trans addK_len (Nat.add_le_add_right lq 1)⟩
      · unfold setG
        by_cases e : y = t.2
        · rw [if_pos e]
        · rw [if_neg e]
      · rw [mem_addK, mem, take_next hx, List.mem_append, List.mem_singleton]
    rintro σ H3 ⟨s13, ⟨x5, x6, rfl⟩, qs, hD, memq, lq⟩
    rw [List.length_map] at lq
    rw [List.length_map, List.take_of_length_le (by omega)] at memq
    have ndq : qs.Nodup := hD.choose_spec.2.2
    obtain ⟨kvs, gad, hm⟩ := hD
    have g1 := s13 _ _ (show H1 cd = _ from by assumption)
    refine ⟨ad, _, gad, trivial, fun od => ⟨_, rfl, ad, od, rfl, .inr ⟨kvs, upd_same, ?_⟩⟩⟩
    have h0 : Same H (upd H3 ad (.frz od (.dT kvs))) := mutS (e1.trans s13) (backS e1 nad)
    have h1 : upd H3 ad (.frz od (.dT kvs)) ad = some (.frz od (.dT kvs)) := upd_same
    have h2 : upd H3 ad (.frz od (.dT kvs)) cd = some (.dT []) := by rw [upd_ne ncad]; exact g1
    generalize upd H3 ad (.frz od (.dT kvs)) = Hf at h0 h1 h2 ⊢
    refine for_it walk_keysT (fun i σ H' => Same H H' ∧ H' ad = some (.frz od (.dT kvs)) ∧ (∃ x5 x6 x7 x8 : Option V, σ = [some (.ref l), some (.ref lb), some (.ref ls), some (.ref cd), some (.ref ad), x5, x6, x7, x8, none, none]) ∧
        ∃ ks, Dct H' cd ks (fun x => .int ((nbq (qs.take i) x.1 x.2 : Nat) : Int)) ∧ (∀ x, x ∈ ks ↔ ∃ y ∈ qs.take i, x = y ∨ nbr y x) ∧ ks.length ≤ 10 * i)
      ⟨h0, h1, ⟨_, _, _, _, rfl⟩, [], Dct.new _ h2, fun x => by simp, Nat.le_refl _⟩ (fun i σ H' _ p => p.2.1) ?_ ?_
    · rintro i x σ H2 H4 hi ⟨sm, had, ⟨x5, x6, x7, x8, rfl⟩, ks, hK, mk, lk⟩ ⟨rfl, k, v, q0, e, rfl, hq0⟩
      obtain ⟨y, hy, rfl, rfl⟩ := hm.at e
      have li : i < qs.length := (List.getElem?_eq_some_iff.mp hy).1
      obtain ⟨r, c⟩ := y
      have hq0 : _ = some (HO.tup [.int r, .int c]) := hq0
      refine ⟨q0, _, rfl, tup_of hq0, rfl, _, _, rfl, _, _, rfl, rfl, ?_⟩
      k_upd
      refine ⟨_, rfl, cd, rfl, hK.isD, _, rfl, _, rfl, (by k_clsL), fun p4 n4 => ?_⟩
      k_invariant "new" (n4, H5, e5, g5)
      refine ⟨_, (hK.up e5).dget (x := (r, c)) g5, ?_⟩
      rw [cnt_get (x := (r, c)) (g := fun x => nbq (qs.take i) x.1 x.2) fun nm => nbq_zero fun z mz nz => nm ((mk _).mpr ⟨z, mz, .inr nz⟩)]
      refine ⟨_, rfl, _, rfl, _, rfl, (by k_clsL), fun p6 n6 => ?_⟩
      k_invariant "new" (n6, H6, e6, g6)
      obtain ⟨H7, dp7, pa7⟩ := (hK.up (e5.trans e6)).dput (x := (r, c)) (by rw [sizeLine_eq]; omega) g6 (.int ((nbq (qs.take i) r c : Nat) : Int))
      have s7 := pa7.mut (sm.trans (e5.trans e6)) ncd
      refine ⟨cd, H7, rfl, dp7, ?_⟩
      have k7 : Dct H7 cd (addK ks (r, c)) (fun x => .int ((nbq (qs.take i) x.1 x.2 + (if doneB 0 0 (r, c) x then 1 else 0) : Nat) : Int)) := pa7.1.congr fun x m => by
        have n0 : ¬ doneB 0 0 (r, c) x := fun z => by
          obtain ⟨⟨a1, a2, a3, a4, a5⟩, b1⟩ := z
          dsimp only at a1 a2 a3 a4 b1
          omega
        rw [if_neg n0]
        unfold setG
        by_cases e : x = (r, c)
        · rw [if_pos e, e]
          rfl
        · rw [if_neg e]
          rfl
      have m7 : ∀ x, x ∈ addK ks (r, c) ↔ (∃ y ∈ qs.take i, x = y ∨ nbr y x) ∨ x = (r, c) ∨ doneB 0 0 (r, c) x := fun x => by
        rw [mem_addK, mk]
        refine ⟨fun z => z.elim .inl fun z => .inr (.inl z), fun z => z.elim .inl fun z => z.elim .inr fun z => ?_⟩
        obtain ⟨⟨a1, a2, a3, a4, a5⟩, b1⟩ := z
        dsimp only at a1 a2 a3 a4 b1
        omega
      have ad7 : H7 ad = some (.frz od (.dT kvs)) := by
        rw [pa7.2 ad fun e => ncad e.symm]
        exact e6 _ _ (e5 _ _ had)
      k_upd
      refine ⟨_, rfl, _, _, rfl, rfl, _, rfl, _, rfl, _, _, rfl, rfl, (by k_clsL), fun li1 nli1 => ?_⟩
      have ncl : li1 ≠ cd := k7.ne nli1
      k_invariant "new" (nli1, H8, e8, g8)
      have ad8 := e8 _ _ ad7
      have k8 := k7.up e8
      have l8 : (addK ks (r, c)).length ≤ 10 * i + 1 := Nat.le_trans addK_len (by omega)
      refine ⟨li1, rfl, ⟨_, lst_of g8⟩, ?_⟩
      refine for_list (K := K) (a := li1) (xs := [V.int (r - 1), .int r, .int (r + 1)]) (fun a σ H' => Same H H' ∧ H' ad = some (.frz od (.dT kvs)) ∧ H' li1 = some (.lst [.int (r - 1), .int r, .int (r + 1)]) ∧
          (∃ x7 x8 : Option V, σ = [some (.ref l), some (.ref lb), some (.ref ls), some (.ref cd), some (.ref ad), some (.int r), some (.int c), x7, x8, none, none]) ∧
          ∃ ks', Dct H' cd ks' (fun x => .int ((nbq (qs.take i) x.1 x.2 + (if doneB a 0 (r, c) x then 1 else 0) : Nat) : Int)) ∧ (∀ x, x ∈ ks' ↔ (∃ y ∈ qs.take i, x = y ∨ nbr y x) ∨ x = (r, c) ∨ doneB a 0 (r, c) x) ∧ ks'.length ≤ 10 * i + 1 + 3 * a)
        ⟨s7.trans e8, ad8, g8, ⟨_, _, rfl⟩, _, k8, m7, l8⟩ (fun a σ H' _ p => lst_of p.2.2.1) ?_ ?_
      · rintro a v σ H9 ha ⟨s9, ad9, g9, ⟨x7, x8, rfl⟩, ks9, k9, m9, l9⟩
        obtain ⟨rfl, a3⟩ := three ha
        k_upd
        refine ⟨_, rfl, _, _, rfl, rfl, _, rfl, _, rfl, _, _, rfl, rfl, (by k_clsL), fun li2 nli2 => ?_⟩
        k_invariant "new" (nli2, H10, e10, g10)
        have nl2 : li2 ≠ cd := k9.ne nli2
        refine ⟨li2, rfl, ⟨_, lst_of g10⟩, ?_⟩
        refine for_list (K := K) (a := li2) (xs := [V.int (c - 1), .int c, .int (c + 1)]) (fun b σ H' => Same H H' ∧ H' ad = some (.frz od (.dT kvs)) ∧ H' li1 = some (.lst [.int (r - 1), .int r, .int (r + 1)]) ∧ H' li2 = some (.lst [.int (c - 1), .int c, .int (c + 1)]) ∧
            (∃ x8 : Option V, σ = [some (.ref l), some (.ref lb), some (.ref ls), some (.ref cd), some (.ref ad), some (.int r), some (.int c), some (.int (r - 1 + (a : Int))), x8, none, none]) ∧
            ∃ ks', Dct H' cd ks' (fun x => .int ((nbq (qs.take i) x.1 x.2 + (if doneB a b (r, c) x then 1 else 0) : Nat) : Int)) ∧ (∀ x, x ∈ ks' ↔ (∃ y ∈ qs.take i, x = y ∨ nbr y x) ∨ x = (r, c) ∨ doneB a b (r, c) x) ∧ ks'.length ≤ 10 * i + 1 + 3 * a + b)
          ⟨s9.trans e10, e10 _ _ ad9, e10 _ _ g9, g10, ⟨_, rfl⟩, _, k9.up e10, m9, l9⟩ (fun b σ H' _ p => lst_of p.2.2.2.1) ?_ ?_
        · rintro b v σ H11 hb' ⟨s11, ad11, g11, g12, ⟨x8, rfl⟩, ks11, k11, m11, l11⟩
          obtain ⟨rfl, b3⟩ := three hb'
          k_upd
          refine ⟨_, rfl, _, rfl, rfl, _, rfl, ite2 (fun c1 => iteT ?_) (fun c1 => ⟨_, rfl, _, rfl, rfl, _, rfl, ite2 (fun c2 => ?_) (fun c2 => ?_)⟩)⟩
          rotate_left 2
          · have z1 := neF c1
            have z2 := neF c2
            have same : ∀ x, doneB a (b + 1) (r, c) x ↔ doneB a b (r, c) x := fun x => by
              unfold doneB nbr
              dsimp only
              refine ⟨fun ⟨h, h2⟩ => ⟨h, ?_⟩, fun ⟨h, h2⟩ => ⟨h, ?_⟩⟩
              · rcases h2 with h2 | ⟨h2, h3⟩
                · exact .inl h2
                · have n3 : ¬ x.2 = c - 1 + (b : Int) := fun e => h.2.2.2.2 (Prod.ext (by dsimp only; omega) (by dsimp only; omega))
                  exact .inr ⟨h2, by omega⟩
              · rcases h2 with h2 | ⟨h2, h3⟩
                · exact .inl h2
                · exact .inr ⟨h2, by omega⟩
            refine ⟨s11, ad11, g11, g12, ⟨_, rfl⟩, ks11, k11.congr fun x _ => ?_, fun x => ?_, by omega⟩
            · simp only [same]
            · rw [m11, same]
          all_goals
            have hne : ¬ (r - 1 + (a : Int) = r ∧ c - 1 + (b : Int) = c) := by
              first
                | exact fun z => neT c1 z.1
                | exact fun z => neT c2 z.2
            have nbx : nbr (r, c) (r - 1 + (a : Int), c - 1 + (b : Int)) := ⟨by dsimp only; omega, by dsimp only; omega, by dsimp only; omega, by dsimp only; omega, fun e => hne ⟨congrArg Prod.fst e, congrArg Prod.snd e⟩⟩
            have nd0 : ¬ doneB a b (r, c) (r - 1 + (a : Int), c - 1 + (b : Int)) := fun z => by
              obtain ⟨_, z⟩ := z
              dsimp only at z
              omega
            have step : ∀ x, doneB a (b + 1) (r, c) x ↔ doneB a b (r, c) x ∨ x = (r - 1 + (a : Int), c - 1 + (b : Int)) := fun x => by
              constructor
              · rintro ⟨h, h2⟩
                rcases h2 with h2 | ⟨h2, h3⟩
                · exact .inl ⟨h, .inl h2⟩
                · by_cases e : x.2 = c - 1 + (b : Int)
                  · exact .inr (Prod.ext h2 e)
                  · exact .inl ⟨h, .inr ⟨h2, by dsimp only at h3 ⊢; omega⟩⟩
              · rintro (⟨h, h2⟩ | e)
                · refine ⟨h, ?_⟩
                  rcases h2 with h2 | ⟨h2, h3⟩
                  · exact .inl h2
                  · exact .inr ⟨h2, by omega⟩
                · rw [e]
                  exact ⟨nbx, .inr ⟨rfl, by dsimp only; omega⟩⟩
            refine ⟨_, rfl, cd, rfl, k11.isD, _, rfl, _, rfl, (by k_clsL), fun p12 n12 => ?_⟩
            k_invariant "new" (n12, H12, e12, g13)
            refine ⟨_, (k11.up e12).dget (x := (r - 1 + (a : Int), c - 1 + (b : Int))) g13, ?_⟩
            rw [cnt_get (x := (r - 1 + (a : Int), c - 1 + (b : Int))) (g := fun x => nbq (qs.take i) x.1 x.2 + (if doneB a b (r, c) x then 1 else 0)) fun nm => ?_]
            rotate_left
            · dsimp only
              rw [if_neg nd0, nbq_zero (x := (r - 1 + (a : Int), c - 1 + (b : Int))) fun z mz nz => nm ((m11 _).mpr (.inl ⟨z, mz, .inr nz⟩))]
            dsimp only
            rw [if_neg nd0, Nat.add_zero]
            refine ⟨_, _, rfl, rfl, _, rfl, _, rfl, _, rfl, (by k_clsL), fun p14 n14 => ?_⟩
            k_invariant "new" (n14, H14, e14, g14)
            have fewk : ks11.length < sizeLine := by rw [sizeLine_eq]; omega
            obtain ⟨H15, dp15, pa15⟩ := (k11.up (e12.trans e14)).dput (x := (r - 1 + (a : Int), c - 1 + (b : Int))) fewk g14 (.int ((nbq (qs.take i) (r - 1 + (a : Int)) (c - 1 + (b : Int)) : Nat) + 1 : Int))
            have off : ∀ (p : Addr) (o : HO), H11 p = some o → p ≠ cd → H15 p = some o := fun p o e n => by
              rw [pa15.2 p n]
              exact e14 _ _ (e12 _ _ e)
            refine ⟨cd, H15, rfl, dp15, pa15.mut (s11.trans (e12.trans e14)) ncd, off _ _ ad11 (fun e => ncad e.symm), off _ _ g11 ncl, off _ _ g12 nl2, ⟨_, rfl⟩, addK ks11 (r - 1 + (a : Int), c - 1 + (b : Int)), pa15.1.congr fun x _ => ?_, fun x => ?_, ?_⟩
            · unfold setG
              by_cases e : x = (r - 1 + (a : Int), c - 1 + (b : Int))
              · rw [if_pos e, if_pos ((step x).mpr (.inr e)), e]
                rfl
              · rw [if_neg e]
                have : doneB a (b + 1) (r, c) x ↔ doneB a b (r, c) x := (step x).trans ⟨fun z => z.elim id fun z => absurd z e, .inl⟩
                simp only [this]
            · rw [mem_addK, m11, step]
              constructor
              · rintro ((h | h | h) | h)
                · exact .inl h
                · exact .inr (.inl h)
                · exact .inr (.inr (.inl h))
                · exact .inr (.inr (.inr h))
              · rintro (h | h | h | h)
                · exact .inl (.inl h)
                · exact .inl (.inr (.inl h))
                · exact .inl (.inr (.inr h))
                · exact .inr h
            · have := addK_len (ps := ks11) (x := (r - 1 + (a : Int), c - 1 + (b : Int)))
              omega
        · rintro σ H11 ⟨s11, ad11, g11, g12, ⟨x8, rfl⟩, ks11, k11, m11, l11⟩
          have same : ∀ x, doneB a 3 (r, c) x ↔ doneB (a + 1) 0 (r, c) x := fun x => by
            unfold doneB nbr
            dsimp only
            refine ⟨fun ⟨h, h2⟩ => ⟨h, ?_⟩, fun ⟨h, h2⟩ => ⟨h, ?_⟩⟩
            · omega
            · omega
          have k11 : Dct H11 cd ks11 (fun x => .int ((nbq (qs.take i) x.1 x.2 + (if doneB a 3 (r, c) x then 1 else 0) : Nat) : Int)) := k11
          have m11 : ∀ x, x ∈ ks11 ↔ (∃ y ∈ qs.take i, x = y ∨ nbr y x) ∨ x = (r, c) ∨ doneB a 3 (r, c) x := m11
          have l11 : ks11.length ≤ 10 * i + 1 + 3 * a + 3 := l11
          refine ⟨s11, ad11, g11, ⟨_, _, rfl⟩, ks11, k11.congr fun x _ => ?_, fun x => ?_, by omega⟩
          · simp only [same]
          · rw [m11, same]
      · rintro σ H9 ⟨s9, ad9, g9, ⟨x7, x8, rfl⟩, ks9, k9, m9, l9⟩
        have all : ∀ x, doneB 3 0 (r, c) x ↔ nbr (r, c) x := fun x => by
          unfold doneB nbr
          dsimp only
          refine ⟨fun h => h.1, fun h => ⟨h, .inl (by omega)⟩⟩
        have k9 : Dct H9 cd ks9 (fun x => .int ((nbq (qs.take i) x.1 x.2 + (if doneB 3 0 (r, c) x then 1 else 0) : Nat) : Int)) := k9
        have m9 : ∀ x, x ∈ ks9 ↔ (∃ y ∈ qs.take i, x = y ∨ nbr y x) ∨ x = (r, c) ∨ doneB 3 0 (r, c) x := m9
        have l9 : ks9.length ≤ 10 * i + 1 + 3 * 3 := l9
        refine ⟨s9, ad9, ⟨_, _, _, _, rfl⟩, ks9, k9.congr fun x _ => ?_, fun x => ?_, by omega⟩
        · rw [take_next hy, nbq_snoc]
          simp only [all]
        · rw [m9, all, take_next hy]
          constructor
          · rintro (⟨y, my, h⟩ | h | h)
            · exact ⟨y, List.mem_append.mpr (.inl my), h⟩
            · exact ⟨(r, c), List.mem_append.mpr (.inr (List.mem_singleton.mpr rfl)), .inl h⟩
            · exact ⟨(r, c), List.mem_append.mpr (.inr (List.mem_singleton.mpr rfl)), .inr h⟩
          · rintro ⟨y, my, h⟩
            rcases List.mem_append.mp my with my | my
            · exact .inl ⟨y, my, h⟩
            · rw [List.mem_singleton.mp my] at h
              exact .inr h
    · rintro σ H4 ⟨sm, had, ⟨x5, x6, x7, x8, rfl⟩, ks, hK, mk, lk⟩
      rw [hm.len] at lk
      rw [hm.len, List.take_of_length_le (Nat.le_refl _)] at hK mk
      have ndk : ks.Nodup := hK.choose_spec.2.2
      refine ⟨had, ?_⟩
      have sA : Same H (upd H4 ad (.dT kvs)) := mutS sm (backS e1 nad)
      have gA : upd H4 ad (.dT kvs) ad = some (.dT kvs) := upd_same
      have kA := hK.off (o := .dT kvs) ncad
      generalize upd H4 ad (.dT kvs) = H5 at sA gA kA ⊢
      k_upd
      refine ⟨by k_clsL, fun fl nfl => ?_⟩
      k_invariant "new" (nfl, H6, e6, g6)
      k_upd
      obtain ⟨kvc, gcd, hmc⟩ := kA.up e6
      have nfc : fl ≠ cd := fun e => by rw [e, gcd] at g6; cases g6
      have nfa : fl ≠ ad := fun e => by rw [e, e6 _ _ gA] at g6; cases g6
      refine ⟨cd, _, gcd, trivial, fun od2 => ⟨_, rfl, cd, od2, rfl, .inr ⟨kvc, upd_same, ?_⟩⟩⟩
      have b0 : Same H (upd H6 cd (.frz od2 (.dT kvc))) := mutS (sA.trans e6) ncd
      have b1 : upd H6 cd (.frz od2 (.dT kvc)) cd = some (.frz od2 (.dT kvc)) := upd_same
      have b2 : upd H6 cd (.frz od2 (.dT kvc)) ad = some (.dT kvs) := by rw [upd_ne fun e => ncad e.symm]; exact e6 _ _ gA
      have b3 : upd H6 cd (.frz od2 (.dT kvc)) fl = some (.lst []) := by rw [upd_ne nfc]; exact g6
      generalize upd H6 cd (.frz od2 (.dT kvc)) = Hg at b0 b1 b2 b3 ⊢
      have memE : ∀ x, memL ps x.1 x.2 = decide (x ∈ qs) := fun x => by
        unfold memL
        rw [Bool.eq_iff_iff, decide_eq_true_iff, decide_eq_true_iff, memq]
      have nbE : ∀ x : Pr, (nbq qs x.1 x.2 : Int) = (nb (memL ps) x.1 x.2 : Int) := fun x => by
        rw [nbq_nb ndq]
        have : memL qs = memL ps := funext fun r => funext fun c => by
          show decide ((r, c) ∈ qs) = _
          exact (memE (r, c)).symm
        rw [this]
      have nfl0 : H fl = none := backS sA nfl
      refine for_it walk_keysT (fun i σ H' => Same H H' ∧ H' cd = some (.frz od2 (.dT kvc)) ∧ H' ad = some (.dT kvs) ∧ (∃ x10 : Option V, σ = [some (.ref l), some (.ref lb), some (.ref ls), some (.ref cd), some (.ref ad), x5, x6, x7, x8, some (.ref fl), x10]) ∧
          ∃ us : List (Addr × Pr), H' fl = some (.lst (us.map fun t => V.ref t.1)) ∧ (∀ t ∈ us, H' t.1 = some (.tup [.int t.2.1, .int t.2.2])) ∧ us.map (·.2) = (ks.take i).filter fun x => stepL bs ss (memL ps) x.1 x.2)
        ⟨b0, b1, b2, ⟨_, rfl⟩, [], b3, fun _ m => (by cases m), by simp⟩ (fun i σ H' _ p => p.2.1) ?_ ?_
      · rintro i x σ H2 H7 hi ⟨sm, hcd, had, ⟨x10, rfl⟩, us, hus, htu, eus⟩ ⟨rfl, k, v, q0, e, rfl, hq0⟩
        obtain ⟨y, hy, rfl, rfl⟩ := hmc.at e
        have hq0 : _ = some (HO.tup [.int y.1, .int y.2]) := hq0
        have my := List.mem_of_getElem? hy
        have dgA := Dct.dget (H := H7) (d := ad) (g := fun _ => V.bl true) (x := y) ⟨kvs, had, hm⟩ hq0
        have dgC : DGet H7 cd (.ref q0) (some (.int ((nbq qs y.1 y.2 : Nat) : Int))) := .inr ⟨kvc, keyP y, q0, .inr ⟨od2, hcd⟩, rfl, hq0, by rw [hmc.get y, if_pos my]⟩
        have lu : us.length ≤ i := by
          have z := congrArg List.length eus
          rw [List.length_map] at z
          have := List.length_filter_le (fun x : Pr => stepL bs ss (memL ps) x.1 x.2) (ks.take i)
          rw [List.length_take] at this
          omega
        have lkc := hmc.len
        have hS' := sm _ _ hS
        have hB' := sm _ _ hB
        k_upd
        by_cases m : y ∈ qs
        · rw [if_pos m] at dgA
          have sE : stepL bs ss (memL ps) y.1 y.2 = decide ((nbq qs y.1 y.2 : Int) ∈ ss) := by
            unfold stepL
            rw [memE, if_pos (decide_eq_true m), nbE]
          refine ⟨_, rfl, _, rfl, ad, _, rfl, dgA, _, rfl, iteT ?_⟩
          refine ⟨_, rfl, _, rfl, cd, _, rfl, dgC, _, rfl, ls, _, rfl, .inl (lst_of hS'), rfl, flat_ints _, _, by rw [if_neg Bool.false_ne_true, inV_ints], ite2 (fun c => iteT ?_) (fun c => ?_)⟩
          · have sP : stepL bs ss (memL ps) y.1 y.2 = true := sE.trans c
            refine ⟨_, rfl, .inl ⟨rfl, _, lst_of hus⟩, _, rfl, _, _, _, rfl, rfl, hus, by rw [List.length_map, sizeLine_eq]; omega, ?_⟩
            have off : ∀ (b : Addr) (o : HO), H7 b = some o → (∀ xs, o ≠ .lst xs) → upd H7 fl (.lst ((us.map fun t => V.ref t.1) ++ [.ref q0])) b = some o := fun b o e ne => by
              rw [upd_ne fun z => ?_]
              · exact e
              · rw [z, hus] at e
                exact ne _ (Option.some.inj e).symm
            refine ⟨mutS sm nfl0, off _ _ hcd (fun _ z => by cases z), off _ _ had (fun _ z => by cases z), ⟨_, rfl⟩, us ++ [(q0, y)], by rw [upd_same, List.map_append]; rfl, fun t m => ?_, ?_⟩
            · rcases List.mem_append.mp m with m | m
              · exact off _ _ (htu t m) (fun _ z => by cases z)
              · rw [List.mem_singleton.mp m]
                exact off _ _ hq0 (fun _ z => by cases z)
            · rw [List.map_append, eus, take_next hy, List.filter_append, List.filter_cons, if_pos sP]
              rfl
          · have sP : stepL bs ss (memL ps) y.1 y.2 = false := by
              rw [sE]
              simpa using c
            refine ⟨_, rfl, _, rfl, ad, _, rfl, dgA, _, rfl, iteF ?_⟩
            refine iteF ?_
            refine ⟨sm, hcd, had, ⟨_, rfl⟩, us, hus, htu, ?_⟩
            rw [eus, take_next hy, List.filter_append, List.filter_cons, if_neg (by rw [sP]; decide)]
            exact (List.append_nil _).symm
        · rw [if_neg m] at dgA
          have sE : stepL bs ss (memL ps) y.1 y.2 = decide ((nbq qs y.1 y.2 : Int) ∈ bs) := by
            unfold stepL
            rw [memE, if_neg (by rw [decide_eq_false m]; decide), nbE]
          refine ⟨_, rfl, _, rfl, ad, _, rfl, dgA, _, rfl, iteF ?_⟩
          refine iteF ?_
          refine ⟨_, rfl, _, rfl, ad, _, rfl, dgA, _, rfl, iteT ?_⟩
          refine ⟨_, rfl, _, rfl, cd, _, rfl, dgC, _, rfl, lb, _, rfl, .inl (lst_of hB'), rfl, flat_ints _, _, by rw [if_neg Bool.false_ne_true, inV_ints], ite2 (fun c => ?_) (fun c => ?_)⟩
          · have sP : stepL bs ss (memL ps) y.1 y.2 = true := sE.trans c
            refine ⟨_, rfl, .inl ⟨rfl, _, lst_of hus⟩, _, rfl, _, _, _, rfl, rfl, hus, by rw [List.length_map, sizeLine_eq]; omega, ?_⟩
            have off : ∀ (b : Addr) (o : HO), H7 b = some o → (∀ xs, o ≠ .lst xs) → upd H7 fl (.lst ((us.map fun t => V.ref t.1) ++ [.ref q0])) b = some o := fun b o e ne => by
              rw [upd_ne fun z => ?_]
              · exact e
              · rw [z, hus] at e
                exact ne _ (Option.some.inj e).symm
            refine ⟨mutS sm nfl0, off _ _ hcd (fun _ z => by cases z), off _ _ had (fun _ z => by cases z), ⟨_, rfl⟩, us ++ [(q0, y)], by rw [upd_same, List.map_append]; rfl, fun t m => ?_, ?_⟩
            · rcases List.mem_append.mp m with m | m
              · exact off _ _ (htu t m) (fun _ z => by cases z)
              · rw [List.mem_singleton.mp m]
                exact off _ _ hq0 (fun _ z => by cases z)
            · rw [List.map_append, eus, take_next hy, List.filter_append, List.filter_cons, if_pos sP]
              rfl
          · have sP : stepL bs ss (memL ps) y.1 y.2 = false := by
              rw [sE]
              simpa using c
            refine ⟨sm, hcd, had, ⟨_, rfl⟩, us, hus, htu, ?_⟩
            rw [eus, take_next hy, List.filter_append, List.filter_cons, if_neg (by rw [sP]; decide)]
            exact (List.append_nil _).symm
      · rintro σ H7 ⟨sm, hcd, had, ⟨x10, rfl⟩, us, hus, htu, eus⟩
        rw [hmc.len, List.take_of_length_le (Nat.le_refl _)] at eus
        refine ⟨hcd, ?_⟩
        have sF : Same H (upd H7 cd (.dT kvc)) := mutS sm ncd
        have cF : Cells (upd H7 cd (.dT kvc)) fl (us.map (·.2)) := Cells.mut ⟨us, hus, htu, rfl⟩ nfc fun xs e => by
          rw [hcd] at e
          cases e
        have ndu : (us.map (·.2)).Nodup := by
          rw [eus]
          exact ndk.filter _
        refine ⟨_, rfl, fl, _, rfl, cF, ndu, fun p H8 rs e8 n8 c8 can l8 => q H8 p rs (backS sF n8) (sF.trans e8) c8 can.1 fun x => ?_⟩
        rw [can.2, eus, List.mem_filter]
        refine ⟨fun h => h.2, fun h => ⟨?_, h⟩⟩
        refine (mk x).mpr ?_
        by_cases m : x ∈ qs
        · exact ⟨x, m, .inl rfl⟩
        · refine Classical.byContradiction fun no => ?_
          have z := nbq_zero (qs := qs) (x := x) fun y my ny => no ⟨y, my, .inr ny⟩
          have h : stepL bs ss (memL ps) x.1 x.2 = true := h
          unfold stepL at h
          rw [memE, if_neg (by rw [decide_eq_false m]; decide), ← nbE, z] at h
          have := hb _ (of_decide_eq_true h)
          omega
end
end My
namespace My
open PySem PySem.Spec PyProof.Rows L2 Vx
open TL
local macro_rules | `(tactic| k_invariant "new" ($n, $H:ident, $e:ident, $h:ident)) => `(tactic| (generalize hE : upd _ _ _ = $H; obtain ⟨$e:ident, $h:ident⟩ := gen_e hE $n; clear hE))
local macro_rules | `(tactic| k_places) => `(tactic| first
  | assumption
  | exact lst_of (by assumption)
  | exact tup_of (by assumption)
  | (refine getS (by assumption) ?_; k_places)
  | (refine Same.seq (by assumption) ?_; k_places)
  | (refine tupS (by assumption) ?_; k_places)
  | (refine lst_of ?_; k_places)
  | (refine tup_of ?_; k_places))
local macro_rules | `(tactic| k_subL) => `(tactic| first
  | k_places
  | solve_by_elim (maxDepth := 10) [getS, lst_of, tup_of, Same.seq, tupS])
local macro_rules | `(tactic| k_offL) => `(tactic| first
  | (show (0 : Int) < _; first | omega | decide)
  | (refine ⟨?_, ?_⟩ <;> first | omega | decide)
  | exact .inr ⟨by decide, by decide⟩
  | exact .inl ⟨by decide, by decide⟩
  | exact .inl ⟨by omega, by omega⟩
  | omega)
local macro_rules | `(tactic| k_clsL) => `(tactic| exact Nat.le_of_ble_eq_true rfl)
local macro_rules | `(tactic| k_upd) => `(tactic| simp only [L2.start, List.map_cons, List.map_nil, List.length_cons, List.length_nil, List.replicate_succ, List.replicate_zero, List.cons_append, List.nil_append, List.set_cons_zero, List.set_cons_succ])
section
variable {P : Program} {w : World} {K : PySem.W.Frag} {mg : Str → Option Value} {base : Heap}
/-! ### patterns -/
def addP (dr dc : Int) (x : Pr) : Pr := (x.1 + dr, x.2 + dc)
def turnP (x : Pr) : Pr := (x.2, -x.1)
def mirP (x : Pr) : Pr := (x.1, -x.2)
def sp_pattern : Sp := fun vs H Q _ => ∃ (l : Addr) (ps : List Pr), vs = [.ref l] ∧ Cells H l ps ∧ ps.length ≤ 4000 ∧
  ∀ (H' : Hp) (p : Addr) (qs : List Pr), H p = none → Same H H' → Cells H' p qs → CanP ps qs → qs.length ≤ 4000 → Q (.ref p) H'
theorem ok_pattern (T : Txt K mg) : FnOk P w K mg base CX0 1 T.f_pattern T.d_pattern ["cells"] sp_pattern := by
  refine T.F_pattern.ok sc_pattern (fun vs H Q E h => ?_) (fun cdv A outer s H vs Q E hr h => ?_)
  · obtain ⟨_, _, rfl, _⟩ := h
    rfl
  · obtain ⟨l, ps, rfl, hC, few, q⟩ := h
    refine ⟨_, (pss_one (ps_ret (pe_callB (cr_sortedB rfl) (by rfl) T.z_sorted (by decide +kernel) (pa_cons (pe_callTy (cr_setB rfl hr.units) (by rfl) T.z_set (by decide +kernel) (pa_cons (pv 0) pa_nil)) pa_nil)))), ?_⟩
    exact ⟨_, rfl, _, _, rfl, hC, few, fun a H1 e1 n1 h1 => ⟨_, _, rfl, h1, fun p H2 qs e2 n2 h2 pw mem l2 => q H2 p qs (backS e1 n2) (e1.trans e2) h2 ⟨pw, mem⟩ l2⟩⟩
end
end My
namespace My
open PySem PySem.Spec PyProof.Rows L2 Vx
open TL
local macro_rules | `(tactic| k_invariant "new" ($n, $H:ident, $e:ident, $h:ident)) => `(tactic| (generalize hE : upd _ _ _ = $H; obtain ⟨$e:ident, $h:ident⟩ := gen_e hE $n; clear hE))
local macro_rules | `(tactic| k_places) => `(tactic| first
  | assumption
  | exact lst_of (by assumption)
  | exact tup_of (by assumption)
  | (refine getS (by assumption) ?_; k_places)
  | (refine Same.seq (by assumption) ?_; k_places)
  | (refine tupS (by assumption) ?_; k_places)
  | (refine lst_of ?_; k_places)
  | (refine tup_of ?_; k_places))
local macro_rules | `(tactic| k_subL) => `(tactic| first
  | k_places
  | solve_by_elim (maxDepth := 10) [getS, lst_of, tup_of, Same.seq, tupS])
local macro_rules | `(tactic| k_offL) => `(tactic| first
  | (show (0 : Int) < _; first | omega | decide)
  | (refine ⟨?_, ?_⟩ <;> first | omega | decide)
  | exact .inr ⟨by decide, by decide⟩
  | exact .inl ⟨by decide, by decide⟩
  | exact .inl ⟨by omega, by omega⟩
  | omega)
local macro_rules | `(tactic| k_clsL) => `(tactic| exact Nat.le_of_ble_eq_true rfl)
local macro_rules | `(tactic| k_upd) => `(tactic| simp only [L2.start, List.map_cons, List.map_nil, List.length_cons, List.length_nil, List.replicate_succ, List.replicate_zero, List.cons_append, List.nil_append, List.set_cons_zero, List.set_cons_succ])
section
variable {P : Program} {w : World} {K : PySem.W.Frag} {mg : Str → Option Value} {base : Heap}
/-! ### the ring and the floor with its copies -/
theorem it_add {f : Nat → Nat} {b L s : Nat} (h : itR f b L = itR f b s) : ∀ k, itR f b (L + k) = itR f b (s + k)
  | 0 => h
  | k + 1 => congrArg f (it_add h k)
theorem it_mod {f : Nat → Nat} {b L s : Nat} (h : itR f b L = itR f b s) (lt : s < L) : ∀ k, itR f b (s + k) = itR f b (s + k % (L - s)) := fun k => by
  induction k using Nat.strongRecOn with
  | _ k ih =>
    by_cases c : k < L - s
    · rw [Nat.mod_eq_of_lt c]
    · rw [show s + k = L + (k - (L - s)) by omega, it_add h, ih _ (by omega), ← Nat.mod_eq_sub_mod (by omega)]
theorem pick_it {f : Nat → Nat} {b n m : Nat} (h : Pick (itR f b) n m) : itR f b m = itR f b n := by
  rcases h with ⟨rfl, _⟩ | ⟨L, s, r, le, rfl⟩
  · rfl
  · have lt := r.lt
    rw [← it_mod r.eq lt (n - s), show s + (n - s) = n by omega]
theorem prv_mod {n R : Nat} (h : 0 < n) (h1 : 1 ≤ R) : (R - 1) % n = prv n (R % n) := by
  unfold prv
  rw [show R % n + n - 1 = R % n + (n - 1) by omega, Nat.mod_add_mod, show R + (n - 1) = R - 1 + n by omega, Nat.add_mod_right]
theorem nxt_mod {n R : Nat} : (R + 1) % n = nxt n (R % n) := by
  unfold nxt
  rw [Nat.mod_add_mod]
theorem floor_ring {h w m b0 : Nat} {bs ss : List Int} (hb : ∀ b ∈ bs, 1 ≤ b ∧ b ≤ 8) (hss : ∀ b ∈ ss, 0 ≤ b ∧ b ≤ 8) (h0 : 0 < h) (hw : 0 < w) (fb : b0 < 2 ^ (h * w)) {L : Int → Int → Bool}
    (hL : ∀ R C : Nat, R < m * h → C < m * w → L (R : Int) (C : Int) = b0.testBit ((R % h) * w + C % w)) :
    ∀ (k R C : Nat), k ≤ R → R + k < m * h → k ≤ C → C + k < m * w → genL bs ss L k (R : Int) (C : Int) = (itR (afterN h w bs ss) b0 k).testBit ((R % h) * w + C % w)
  | 0, R, C, _, h1, _, h2 => hL R C h1 h2
  | k + 1, R, C, r0, r1, c0, c1 => by
    have ih := fun (R C : Nat) a b c d => floor_ring (m := m) hb hss h0 hw fb hL k R C a b c d
    have e0 : ((R : Nat) : Int) - 1 = ((R - 1 : Nat) : Int) := by omega
    have e1 : ((R : Nat) : Int) + 1 = ((R + 1 : Nat) : Int) := by omega
    have e2 : ((C : Nat) : Int) - 1 = ((C - 1 : Nat) : Int) := by omega
    have e3 : ((C : Nat) : Int) + 1 = ((C + 1 : Nat) : Int) := by omega
    have m1 := prv_mod (n := h) (R := R) h0 (by omega)
    have m2 := nxt_mod (n := h) (R := R)
    have m3 := prv_mod (n := w) (R := C) hw (by omega)
    have m4 := nxt_mod (n := w) (R := C)
    have nn : nb (genL bs ss L k) (R : Int) (C : Int) = nbR h w (itR (afterN h w bs ss) b0 k) (R % h) (C % w) := by
      unfold nb nbR
      rw [e0, e1, e2, e3, ih (R - 1) (C - 1) (by omega) (by omega) (by omega) (by omega), ih (R - 1) C (by omega) (by omega) (by omega) (by omega), ih (R - 1) (C + 1) (by omega) (by omega) (by omega) (by omega),
        ih R (C - 1) (by omega) (by omega) (by omega) (by omega), ih R (C + 1) (by omega) (by omega) (by omega) (by omega),
        ih (R + 1) (C - 1) (by omega) (by omega) (by omega) (by omega), ih (R + 1) C (by omega) (by omega) (by omega) (by omega), ih (R + 1) (C + 1) (by omega) (by omega) (by omega) (by omega), m1, m2, m3, m4]
    show stepL bs ss (genL bs ss L k) (R : Int) (C : Int) = (afterN h w bs ss (itR (afterN h w bs ss) b0 k)).testBit _
    rw [after_bit hb hss hw (it_fit hb hss h0 hw fb k) (Nat.mod_lt _ h0) (Nat.mod_lt _ hw)]
    unfold stepL liveR
    rw [nn, ih R C (by omega) (by omega) (by omega) (by omega)]
/-! ### copies -/
def cpy (h w : Nat) (d e : Nat) (x : Pr) : Pr := (x.1 + (d : Int) * (h : Int), x.2 + (e : Int) * (w : Int))
def cpyB (h w n : Nat) (x : Pr) (d : Nat) : List Pr := (List.range n).map fun e => cpy h w d e x
def cpyA (h w m n : Nat) (x : Pr) : List Pr := (List.range m).flatMap (cpyB h w n x)
def cpyU (h w m n : Nat) (ps : List Pr) : List Pr := ps.flatMap (cpyA h w m n)
theorem mem_cpyU {h w m n : Nat} {ps : List Pr} {y : Pr} : y ∈ cpyU h w m n ps ↔ ∃ x ∈ ps, ∃ d < m, ∃ e < n, y = cpy h w d e x := by
  unfold cpyU cpyA cpyB
  simp only [List.mem_flatMap, List.mem_map, List.mem_range]
  constructor
  · rintro ⟨x, mx, d, hd, e, he, rfl⟩
    exact ⟨x, mx, d, hd, e, he, rfl⟩
  · rintro ⟨x, mx, d, hd, e, he, rfl⟩
    exact ⟨x, mx, d, hd, e, he, rfl⟩
theorem cpyB_len (h w n : Nat) (x : Pr) (d : Nat) : (cpyB h w n x d).length = n := by
  unfold cpyB
  rw [List.length_map, List.length_range]
theorem flat_len {α : Type} {f : α → List Pr} {k : Nat} : ∀ {l : List α}, (∀ x ∈ l, (f x).length = k) → (l.flatMap f).length = l.length * k
  | [], _ => by rw [List.flatMap_nil, List.length_nil, List.length_nil, Nat.zero_mul]
  | x :: l, h => by
    rw [List.flatMap_cons, List.length_append, h x List.mem_cons_self, flat_len fun y m => h y (List.mem_cons_of_mem _ m), List.length_cons, Nat.succ_mul, Nat.add_comm]
theorem cpyA_len (h w m n : Nat) (x : Pr) : (cpyA h w m n x).length = m * n := by
  unfold cpyA
  rw [flat_len fun d _ => cpyB_len h w n x d, List.length_range]
theorem cpyU_len (h w m n : Nat) (ps : List Pr) : (cpyU h w m n ps).length = ps.length * (m * n) := by
  unfold cpyU
  rw [flat_len fun x _ => cpyA_len h w m n x]
/-- the floor of the copies shows the ring -/
theorem copies_at {h w m b0 : Nat} {ps : List Pr} (h0 : 0 < h) (hw : 0 < w) (hB : BitsOf h w b0 ps) (box : ∀ x ∈ ps, 0 ≤ x.1 ∧ x.1 < (h : Int) ∧ 0 ≤ x.2 ∧ x.2 < (w : Int)) {R C : Nat} (hR : R < m * h) (hC : C < m * w) :
    memL (cpyU h w m m ps) (R : Int) (C : Int) = b0.testBit ((R % h) * w + C % w) := by
  unfold memL
  rw [Bool.eq_iff_iff, decide_eq_true_iff, mem_cpyU, hB]
  constructor
  · rintro ⟨x, mx, d, hd, e, he, eq⟩
    obtain ⟨a1, a2, a3, a4⟩ := box x mx
    refine ⟨x, mx, ?_⟩
    obtain ⟨r, er⟩ := Int.eq_ofNat_of_zero_le a1
    obtain ⟨c, ec⟩ := Int.eq_ofNat_of_zero_le a3
    have ex : x = ((r : Int), (c : Int)) := Prod.ext er ec
    subst ex
    dsimp only at a2 a4
    rw [posR_at (by omega) (by omega)]
    unfold cpy at eq
    have q1 : (R : Int) = (r : Int) + (d : Int) * (h : Int) := congrArg Prod.fst eq
    have q2 : (C : Int) = (c : Int) + (e : Int) * (w : Int) := congrArg Prod.snd eq
    have q1 : R = r + d * h := by exact_mod_cast q1
    have q2 : C = c + e * w := by exact_mod_cast q2
    rw [q1, q2, Nat.add_mul_mod_self_right, Nat.add_mul_mod_self_right, Nat.mod_eq_of_lt (show r < h by omega), Nat.mod_eq_of_lt (show c < w by omega)]
  · rintro ⟨x, mx, eq⟩
    obtain ⟨a1, a2, a3, a4⟩ := box x mx
    obtain ⟨r, er⟩ := Int.eq_ofNat_of_zero_le a1
    obtain ⟨c, ec⟩ := Int.eq_ofNat_of_zero_le a3
    have ex : x = ((r : Int), (c : Int)) := Prod.ext er ec
    subst ex
    dsimp only at a2 a4
    rw [posR_at (by omega) (by omega)] at eq
    obtain ⟨z1, z2⟩ := (p_eq (show c < w by omega) (Nat.mod_lt _ hw)).mp eq
    refine ⟨_, mx, R / h, (Nat.div_lt_iff_lt_mul h0).mpr hR, C / w, (Nat.div_lt_iff_lt_mul hw).mpr hC, ?_⟩
    unfold cpy
    have q1 : R = r + R / h * h := by rw [z1, Nat.mul_comm]; exact (Nat.mod_add_div R h).symm
    have q2 : C = c + C / w * w := by rw [z2, Nat.mul_comm]; exact (Nat.mod_add_div C w).symm
    refine Prod.ext ?_ ?_ <;> dsimp only
    · exact_mod_cast q1
    · exact_mod_cast q2
end
end My
namespace My
open PySem PySem.Spec PyProof.Rows L2 Vx
open TL
local macro_rules | `(tactic| k_invariant "new" ($n, $H:ident, $e:ident, $h:ident)) => `(tactic| (generalize hE : upd _ _ _ = $H; obtain ⟨$e:ident, $h:ident⟩ := gen_e hE $n; clear hE))
local macro_rules | `(tactic| k_places) => `(tactic| first
  | assumption
  | exact lst_of (by assumption)
  | exact tup_of (by assumption)
  | (refine getS (by assumption) ?_; k_places)
  | (refine Same.seq (by assumption) ?_; k_places)
  | (refine tupS (by assumption) ?_; k_places)
  | (refine lst_of ?_; k_places)
  | (refine tup_of ?_; k_places))
local macro_rules | `(tactic| k_subL) => `(tactic| first
  | k_places
  | solve_by_elim (maxDepth := 10) [getS, lst_of, tup_of, Same.seq, tupS])
local macro_rules | `(tactic| k_offL) => `(tactic| first
  | (show (0 : Int) < _; first | omega | decide)
  | (refine ⟨?_, ?_⟩ <;> first | omega | decide)
  | exact .inr ⟨by decide, by decide⟩
  | exact .inl ⟨by decide, by decide⟩
  | exact .inl ⟨by omega, by omega⟩
  | omega)
local macro_rules | `(tactic| k_clsL) => `(tactic| exact Nat.le_of_ble_eq_true rfl)
local macro_rules | `(tactic| k_upd) => `(tactic| simp only [L2.start, List.map_cons, List.map_nil, List.length_cons, List.length_nil, List.replicate_succ, List.replicate_zero, List.cons_append, List.nil_append, List.set_cons_zero, List.set_cons_succ])
section
variable {P : Program} {w : World} {K : PySem.W.Frag} {mg : Str → Option Value} {base : Heap}
theorem take_flat {f : Pr → List Pr} {ps : List Pr} {i : Nat} {x : Pr} (h : ps[i]? = some x) : (ps.take (i + 1)).flatMap f = (ps.take i).flatMap f ++ f x := by
  rw [take_next h, List.flatMap_append, List.flatMap_cons, List.flatMap_nil, List.append_nil]
theorem range_flat {f : Nat → List Pr} {j : Nat} : (List.range (j + 1)).flatMap f = (List.range j).flatMap f ++ f j := by
  rw [List.range_succ, List.flatMap_append, List.flatMap_cons, List.flatMap_nil, List.append_nil]
def sp_unrolled : Sp := fun vs H Q _ => ∃ (l : Addr) (h w m n : Nat) (ps : List Pr), vs = [.ref l, .int (h : Int), .int (w : Int), .int (m : Int), .int (n : Int)] ∧ Cells H l ps ∧ h ≤ 100 ∧ w ≤ 100 ∧ m ≤ 100 ∧ n ≤ 100 ∧ ps.length * (m * n) ≤ 4000 ∧
  ∀ (H' : Hp) (p : Addr) (qs : List Pr), H p = none → Same H H' → Cells H' p qs → CanP (cpyU h w m n ps) qs → Q (.ref p) H'
theorem ok_unrolled (T : Txt K mg) : FnOk P w K mg base CX0 2 T.f_unrolled T.d_unrolled ["cells", "height", "width", "rows", "columns"] sp_unrolled := by
  refine T.F_unrolled.ok sc_unrolled (fun vs H Q E h => ?_) (fun cdv A outer s H vs Q E hr h => ?_)
  · obtain ⟨_, _, _, _, _, _, rfl, _⟩ := h
    rfl
  · obtain ⟨l, ht, wd, m, n, ps, rfl, hC, h100, w100, m100, n100, few, q⟩ := h
    obtain ⟨ts, hl, htt, eps⟩ := id hC
    refine ⟨_, (pss_one (ps_ret (pe_call (ok_pattern T) (hr.mono (by decide)) (by rfl) T.g_pattern T.F_pattern.kp T.b_pattern .nil pass0 (pa_cons (pe_lc3 (own := [("row", 5), ("column", 6), ("down", 7), ("beside", 8)]) (vs1 := [7, 8]) (vs2 := [8]) rfl sc_unrolled.nd (pi_list (pv 0)) (blkOk_by (own := [("row", 5), ("column", 6), ("down", 7), ("beside", 8)]) (N := N_unrolled) (sc := defScope s_unrolled) (by decide +kernel)) (by decide) (by decide) (fun _ _ _ _ _ => (pg_tupK (K := K) (n := 2) rfl rfl (pgs_cons (pg_name (i := 5) sc_unrolled.nd rfl (.inl rfl)) (pgs_cons (pg_name (i := 6) sc_unrolled.nd rfl (.inl rfl)) pgs_nil)))) (fun _ _ _ _ _ => pts_nil) (fun _ _ _ _ _ => (pi_range1 (by rfl) T.z_range (pa_cons (pv 3) pa_nil))) (fun _ _ _ _ _ => (pg_name (i := 7) sc_unrolled.nd rfl (Or.inl rfl))) (fun _ _ _ _ _ => pts_nil) (fun _ _ _ _ _ => (pi_range1 (by rfl) T.z_range (pa_cons (pv 4) pa_nil))) (fun _ _ _ _ _ => (pg_name (i := 8) sc_unrolled.nd rfl (Or.inl rfl))) (fun _ _ _ _ _ => pts_nil) (fun _ _ _ _ _ => (pe_tup (pa_cons (pe_op op_add (pv 5) (pe_op op_mul (pv 7) (pv 1))) (pa_cons (pe_op op_add (pv 6) (pe_op op_mul (pv 8) (pv 2))) pa_nil))))) pa_nil)))), ?_⟩
    k_upd
    refine ⟨_, rfl, l, rfl, ⟨_, lst_of hl⟩, fun D nD => turns_list (K := K) (a := l) (xs := ts.map fun t => V.ref t.1) (fun i H' => Same H H' ∧ Cells H' D (cpyU ht wd m n (ps.take i)))
      ⟨newS nD, [], upd_same, (fun t m => by cases m), rfl⟩ (fun i H' _ p => lst_of (p.1 _ _ hl)) ?_ ?_⟩
    · rintro i x H1 hi ⟨sm, hA⟩
      obtain ⟨t, mt, rfl, hx⟩ := item_cells (H := H1) hi rfl
      rw [eps] at hx
      refine ⟨t.1, _, rfl, tup_of (sm _ _ (htt t mt)), rfl, _, _, rfl, _, _, rfl, rfl, rfl, tyesT ?_⟩
      obtain ⟨⟨ta, row, col⟩, ht''⟩ : ∃ t' : Addr × Pr, t' = t := ⟨t, rfl⟩
      subst ht''
      dsimp only at hx
      have lps : (cpyU ht wd m n (ps.take i)).length + m * n ≤ 4000 := by
        have li := (List.getElem?_eq_some_iff.mp hx).1
        rw [cpyU_len, List.length_take, Nat.min_eq_left (Nat.le_of_lt li), ← Nat.succ_mul]
        exact Nat.le_trans (Nat.mul_le_mul_right _ li) few
      refine ⟨_, rfl, (m : Int), rfl, by omega, by omega, turns_range (lo := 0) (n := ((m : Int)).toNat) (fun j H' => Same H H' ∧ Cells H' D (cpyU ht wd m n (ps.take i) ++ (List.range j).flatMap (cpyB ht wd n (row, col)))) ⟨sm, by rw [List.range_zero, List.flatMap_nil, List.append_nil]; exact hA⟩ ?_ ?_⟩
      · rintro j H2 hj ⟨sm2, hA2⟩
        refine ⟨rfl, tyesT ?_⟩
        refine ⟨_, rfl, (n : Int), rfl, by omega, by omega, turns_range (lo := 0) (n := ((n : Int)).toNat) (fun k H' => Same H H' ∧ Cells H' D (cpyU ht wd m n (ps.take i) ++ (List.range j).flatMap (cpyB ht wd n (row, col)) ++ (List.range k).map fun e => cpy ht wd j e (row, col))) ⟨sm2, by rw [List.range_zero, List.map_nil, List.append_nil]; exact hA2⟩ ?_ ?_⟩
        · rintro k H3 hk ⟨sm3, us, hD, hus, eus⟩
          refine ⟨rfl, tyesT ?_⟩
          refine ⟨_, rfl, _, rfl, _, rfl, _, _, rfl, rfl, .inl ⟨by omega, by omega⟩, _, _, rfl, rfl, _, rfl, _, rfl, _, rfl, _, _, rfl, rfl, .inl ⟨by omega, by omega⟩, _, _, rfl, rfl, by k_clsL, fun t2 n2 => ?_⟩
          have nD2 : t2 ≠ D := fun z => by rw [z, hD] at n2; cases n2
          k_invariant "new" (n2, H4, e4, g4)
          refine ⟨_, e4 _ _ hD, ?_, mutS (sm3.trans e4) nD, us ++ [(t2, cpy ht wd j k (row, col))], by rw [upd_same, List.map_append]; rfl, fun t m => ?_, ?_⟩
          · have z := congrArg List.length eus
            rw [List.length_map, List.length_append, List.length_append, List.length_map, List.length_range, flat_len fun d _ => cpyB_len ht wd n (row, col) d, List.length_range] at z
            have : j * n + k ≤ m * n := by
              have h1 : (j + 1) * n ≤ m * n := Nat.mul_le_mul_right _ (by omega)
              rw [Nat.succ_mul] at h1
              omega
            rw [List.length_map, z, sizeLine_eq]
            omega
          · rcases List.mem_append.mp m with m | m
            · rw [upd_ne fun z => by have := hus t m; rw [z, hD] at this; cases this]
              exact e4 _ _ (hus t m)
            · rw [List.mem_singleton.mp m, upd_ne nD2]
              unfold cpy
              dsimp only
              rw [← Int.zero_add (j : Int), ← Int.zero_add (k : Int)]
              exact g4
          · rw [List.map_append, eus, List.range_succ, List.map_append, List.append_assoc]
            rfl
        · rintro H3 ⟨sm3, hA3⟩
          refine ⟨sm3, ?_⟩
          rw [range_flat, ← List.append_assoc]
          exact hA3
      · rintro H2 ⟨sm2, hA2⟩
        refine ⟨sm2, ?_⟩
        have : cpyU ht wd m n (ps.take (i + 1)) = cpyU ht wd m n (ps.take i) ++ cpyA ht wd m n (row, col) := take_flat hx
        rw [this]
        exact hA2
    · rintro H1 ⟨sm, hA⟩
      have lt : (ts.map fun t => V.ref t.1).length = ps.length := by rw [List.length_map, ← eps, List.length_map]
      rw [lt, List.take_of_length_le (Nat.le_refl _)] at hA
      exact ⟨_, _, rfl, hA, by rw [cpyU_len]; exact few, fun H2 p qs np e2 h2 can _ => q H2 p qs (backS sm np) (sm.trans e2) h2 can⟩
end
end My
namespace My
open PySem PySem.Spec PyProof.Rows L2 Vx
open TL
local macro_rules | `(tactic| k_invariant "new" ($n, $H:ident, $e:ident, $h:ident)) => `(tactic| (generalize hE : upd _ _ _ = $H; obtain ⟨$e:ident, $h:ident⟩ := gen_e hE $n; clear hE))
local macro_rules | `(tactic| k_places) => `(tactic| first
  | assumption
  | exact lst_of (by assumption)
  | exact tup_of (by assumption)
  | (refine getS (by assumption) ?_; k_places)
  | (refine Same.seq (by assumption) ?_; k_places)
  | (refine tupS (by assumption) ?_; k_places)
  | (refine lst_of ?_; k_places)
  | (refine tup_of ?_; k_places))
local macro_rules | `(tactic| k_subL) => `(tactic| first
  | k_places
  | solve_by_elim (maxDepth := 10) [getS, lst_of, tup_of, Same.seq, tupS])
local macro_rules | `(tactic| k_offL) => `(tactic| first
  | (show (0 : Int) < _; first | omega | decide)
  | (refine ⟨?_, ?_⟩ <;> first | omega | decide)
  | exact .inr ⟨by decide, by decide⟩
  | exact .inl ⟨by decide, by decide⟩
  | exact .inl ⟨by omega, by omega⟩
  | omega)
local macro_rules | `(tactic| k_clsL) => `(tactic| exact Nat.le_of_ble_eq_true rfl)
local macro_rules | `(tactic| k_upd) => `(tactic| simp only [L2.start, List.map_cons, List.map_nil, List.length_cons, List.length_nil, List.replicate_succ, List.replicate_zero, List.cons_append, List.nil_append, List.set_cons_zero, List.set_cons_succ])
section
variable {P : Program} {w : World} {K : PySem.W.Frag} {mg : Str → Option Value} {base : Heap}
def inM (a b c d : Int) (x : Pr) : Bool := (decide (a ≤ x.1) && decide (x.1 < b)) && (decide (c ≤ x.2) && decide (x.2 < d))
theorem middle_eq {h w q k b0 : Nat} {bs ss : List Int} {ps es : List Pr} (hb : ∀ b ∈ bs, 1 ≤ b ∧ b ≤ 8) (hss : ∀ b ∈ ss, 0 ≤ b ∧ b ≤ 8) (h0 : 0 < h) (hw : 0 < w) (hB : BitsOf h w b0 ps) (box : ∀ x ∈ ps, 0 ≤ x.1 ∧ x.1 < (h : Int) ∧ 0 ≤ x.2 ∧ x.2 < (w : Int))
    (kh : k ≤ q * h) (kw : k ≤ q * w) (pw : es.Pairwise ltP) (mem : ∀ x, x ∈ es ↔ genL bs ss (memL (cpyU h w (2 * q + 1) (2 * q + 1) ps)) k x.1 x.2 = true) :
    (es.filter (inM ((q * h : Nat) : Int) ((q * h + h : Nat) : Int) ((q * w : Nat) : Int) ((q * w + w : Nat) : Int))).map (fun x => (x.1 - ((q * h : Nat) : Int), x.2 - ((q * w : Nat) : Int))) = cellsW h w (itR (afterN h w bs ss) b0 k) := by
  have fb := hB.fit h0 hw
  have key : ∀ r c : Nat, r < h → c < w → genL bs ss (memL (cpyU h w (2 * q + 1) (2 * q + 1) ps)) k ((q * h + r : Nat) : Int) ((q * w + c : Nat) : Int) = (itR (afterN h w bs ss) b0 k).testBit (r * w + c) := fun r c hr hc => by
    have e1 : (2 * q + 1) * h = q * h + q * h + h := by rw [Nat.succ_mul, Nat.mul_assoc, Nat.two_mul]
    have e2 : (2 * q + 1) * w = q * w + q * w + w := by rw [Nat.succ_mul, Nat.mul_assoc, Nat.two_mul]
    rw [floor_ring (m := 2 * q + 1) hb hss h0 hw fb (fun R C hR hC => copies_at h0 hw hB box hR hC) k (q * h + r) (q * w + c) (by omega) (by omega) (by omega) (by omega)]
    rw [Nat.mul_add_mod_self_right, Nat.mul_add_mod_self_right, Nat.mod_eq_of_lt hr, Nat.mod_eq_of_lt hc]
  refine ascP_eq (pw_map (fun x y l => ?_) (pw.filter _)) (cellsW_asc h w _) fun x => ?_
  · rw [ltP_iff] at l ⊢
    dsimp only
    omega
  · constructor
    · intro m
      obtain ⟨y, my, rfl⟩ := List.mem_map.mp m
      obtain ⟨my, o⟩ := List.mem_filter.mp my
      unfold inM at o
      simp only [Bool.and_eq_true, decide_eq_true_eq] at o
      obtain ⟨⟨o1, o2⟩, o3, o4⟩ := o
      obtain ⟨r, er⟩ : ∃ r : Nat, y.1 = ((q * h + r : Nat) : Int) := ⟨(y.1 - ((q * h : Nat) : Int)).toNat, by omega⟩
      obtain ⟨c, ec⟩ : ∃ c : Nat, y.2 = ((q * w + c : Nat) : Int) := ⟨(y.2 - ((q * w : Nat) : Int)).toNat, by omega⟩
      have hr : r < h := by omega
      have hc : c < w := by omega
      have t := (mem y).mp my
      rw [er, ec, key r c hr hc] at t
      have : (y.1 - ((q * h : Nat) : Int), y.2 - ((q * w : Nat) : Int)) = (((r : Nat) : Int), ((c : Nat) : Int)) := Prod.ext (by dsimp only; omega) (by dsimp only; omega)
      rw [this]
      exact (mem_cellsW hr hc).mpr t
    · intro m
      obtain ⟨r, c, hr, hc, rfl⟩ := cellsW_in hw m
      have t := (mem_cellsW hr hc).mp m
      rw [← key r c hr hc] at t
      refine List.mem_map.mpr ⟨(((q * h + r : Nat) : Int), ((q * w + c : Nat) : Int)), List.mem_filter.mpr ⟨(mem _).mpr t, ?_⟩, Prod.ext (by dsimp only; omega) (by dsimp only; omega)⟩
      unfold inM
      simp only [Bool.and_eq_true, decide_eq_true_eq]
      omega
theorem nd_flat {α : Type} {f : α → List Pr} : ∀ {l : List α}, l.Nodup → (∀ x ∈ l, (f x).Nodup) → (∀ x ∈ l, ∀ y ∈ l, ∀ z, z ∈ f x → z ∈ f y → x = y) → (l.flatMap f).Nodup
  | [], _, _, _ => List.nodup_nil
  | x :: l, nd, h1, h2 => by
    obtain ⟨n1, n2⟩ := List.nodup_cons.mp nd
    rw [List.flatMap_cons]
    refine List.nodup_append.mpr ⟨h1 x List.mem_cons_self, nd_flat n2 (fun y m => h1 y (List.mem_cons_of_mem _ m)) (fun y m y' m' z a b => h2 y (List.mem_cons_of_mem _ m) y' (List.mem_cons_of_mem _ m') z a b), fun z mz z' mz' e => ?_⟩
    subst e
    obtain ⟨y, my, hz⟩ := List.mem_flatMap.mp mz'
    have := h2 x List.mem_cons_self y (List.mem_cons_of_mem _ my) z mz hz
    rw [this] at n1
    exact n1 my
def dueB (h w : Nat) (ps : List Pr) (d e : Nat) : List Pr := ps.map (cpy h w d e)
def dueA (h w m : Nat) (ps : List Pr) (d : Nat) : List Pr := (List.range m).flatMap (dueB h w ps d)
def dueU (h w m : Nat) (ps : List Pr) : List Pr := (List.range m).flatMap (dueA h w m ps)
theorem cpy_inj {h w d e d' e' : Nat} {x y : Pr} (bx : 0 ≤ x.1 ∧ x.1 < (h : Int) ∧ 0 ≤ x.2 ∧ x.2 < (w : Int)) (by' : 0 ≤ y.1 ∧ y.1 < (h : Int) ∧ 0 ≤ y.2 ∧ y.2 < (w : Int)) (eq : cpy h w d e x = cpy h w d' e' y) : d = d' ∧ e = e' ∧ x = y := by
  unfold cpy at eq
  have q1 : x.1 + (d : Int) * (h : Int) = y.1 + (d' : Int) * (h : Int) := congrArg Prod.fst eq
  have q2 : x.2 + (e : Int) * (w : Int) = y.2 + (e' : Int) * (w : Int) := congrArg Prod.snd eq
  have m1 := congrArg (fun z => z % (h : Int)) q1
  have m2 := congrArg (fun z => z % (w : Int)) q2
  rw [Int.add_mul_emod_self_right, Int.add_mul_emod_self_right, Int.emod_eq_of_lt bx.1 bx.2.1, Int.emod_eq_of_lt by'.1 by'.2.1] at m1
  rw [Int.add_mul_emod_self_right, Int.add_mul_emod_self_right, Int.emod_eq_of_lt bx.2.2.1 bx.2.2.2, Int.emod_eq_of_lt by'.2.2.1 by'.2.2.2] at m2
  have hh : (h : Int) ≠ 0 := by omega
  have hw : (w : Int) ≠ 0 := by omega
  have z1 : (d : Int) = (d' : Int) := Int.eq_of_mul_eq_mul_right hh (by omega)
  have z2 : (e : Int) = (e' : Int) := Int.eq_of_mul_eq_mul_right hw (by omega)
  exact ⟨Int.ofNat.inj z1, Int.ofNat.inj z2, Prod.ext m1 m2⟩
theorem dueU_nodup {h w m : Nat} {ps : List Pr} (nd : ps.Nodup) (box : ∀ x ∈ ps, 0 ≤ x.1 ∧ x.1 < (h : Int) ∧ 0 ≤ x.2 ∧ x.2 < (w : Int)) : (dueU h w m ps).Nodup := by
  refine nd_flat List.nodup_range (fun d _ => nd_flat List.nodup_range (fun e _ => ?_) fun e _ e' _ z a b => ?_) fun d _ d' _ z a b => ?_
  · unfold dueB
    refine List.Pairwise.map _ (fun _ _ h => h) (List.Pairwise.imp_of_mem (fun {x y} mx my ne => ?_) nd)
    exact fun eq => ne (cpy_inj (box x mx) (box y my) eq).2.2
  · obtain ⟨x, mx, ex⟩ := List.mem_map.mp a
    obtain ⟨y, my, ey⟩ := List.mem_map.mp b
    exact (cpy_inj (box x mx) (box y my) (ex.trans ey.symm)).2.1
  · obtain ⟨e, _, a⟩ := List.mem_flatMap.mp a
    obtain ⟨e', _, b⟩ := List.mem_flatMap.mp b
    obtain ⟨x, mx, ex⟩ := List.mem_map.mp a
    obtain ⟨y, my, ey⟩ := List.mem_map.mp b
    exact (cpy_inj (box x mx) (box y my) (ex.trans ey.symm)).1
theorem mem_dueU {h w m : Nat} {ps : List Pr} {y : Pr} : y ∈ dueU h w m ps ↔ y ∈ cpyU h w m m ps := by
  rw [mem_cpyU]
  unfold dueU dueA dueB
  simp only [List.mem_flatMap, List.mem_map, List.mem_range]
  constructor
  · rintro ⟨d, hd, e, he, x, mx, rfl⟩
    exact ⟨x, mx, d, hd, e, he, rfl⟩
  · rintro ⟨x, mx, d, hd, e, he, rfl⟩
    exact ⟨d, hd, e, he, x, mx, rfl⟩
theorem dueA_len (h w m : Nat) (ps : List Pr) (d : Nat) : (dueA h w m ps d).length = m * ps.length := by
  unfold dueA
  rw [flat_len (k := ps.length) fun e _ => by unfold dueB; rw [List.length_map], List.length_range]
end
end My
namespace My
open PySem PySem.Spec PyProof.Rows L2 Vx
open TL
local macro_rules | `(tactic| k_invariant "new" ($n, $H:ident, $e:ident, $h:ident)) => `(tactic| (generalize hE : upd _ _ _ = $H; obtain ⟨$e:ident, $h:ident⟩ := gen_e hE $n; clear hE))
local macro_rules | `(tactic| k_places) => `(tactic| first
  | assumption
  | exact lst_of (by assumption)
  | exact tup_of (by assumption)
  | (refine getS (by assumption) ?_; k_places)
  | (refine Same.seq (by assumption) ?_; k_places)
  | (refine tupS (by assumption) ?_; k_places)
  | (refine lst_of ?_; k_places)
  | (refine tup_of ?_; k_places))
local macro_rules | `(tactic| k_subL) => `(tactic| first
  | k_places
  | solve_by_elim (maxDepth := 10) [getS, lst_of, tup_of, Same.seq, tupS])
local macro_rules | `(tactic| k_offL) => `(tactic| first
  | (show (0 : Int) < _; first | omega | decide)
  | (refine ⟨?_, ?_⟩ <;> first | omega | decide)
  | exact .inr ⟨by decide, by decide⟩
  | exact .inl ⟨by decide, by decide⟩
  | exact .inl ⟨by omega, by omega⟩
  | omega)
local macro_rules | `(tactic| k_clsL) => `(tactic| exact Nat.le_of_ble_eq_true rfl)
local macro_rules | `(tactic| k_upd) => `(tactic| simp only [L2.start, List.map_cons, List.map_nil, List.length_cons, List.length_nil, List.replicate_succ, List.replicate_zero, List.cons_append, List.nil_append, List.set_cons_zero, List.set_cons_succ])
section
variable {P : Program} {w : World} {K : PySem.W.Frag} {mg : Str → Option Value} {base : Heap}
theorem lc_cellsF {K : PySem.W.Frag} {l : Addr} {ps : List Pr} {g : TG} {tt : TT} {te : TE} {vs : List Nat} {σ : L2.St} {H1 : Hp} {D : Addr} {Qd : Hp → Prop} (f : Pr → Pr) (pr : Pr → Bool) (hC : Cells H1 l ps) (nD : H1 D = none) (few : ps.length < sizeLine)
    (hs : ∀ (t : Addr) (x : Pr) (H' : Hp) (Po : V → Hp → Prop) (Pn : Hp → Prop), Same H1 H' → H' t = some (.tup [.int x.1, .int x.2]) → (pr x = true → ∀ t2, H' t2 = none → Po (.ref t2) (upd H' t2 (.tup [.int (f x).1, .int (f x).2]))) → (pr x = false → Pn H') →
      g (.ref t) (wipe σ vs) H' fun σ2 H2 => wipe σ2 vs = wipe σ vs ∧ tt σ2 H2 fun b H3 => if b = true then te σ2 H3 Po else Pn H3)
    (hd : ∀ H', Same H1 H' → Cells H' D ((ps.filter pr).map f) → Qd H') :
    ∃ W : Nat → Nat → Hp → Prop, (∃ m, W 0 m (upd H1 D (.lst []))) ∧ ∀ i m H, W i m H →
      ((Itl K l).stop i H ∧ Qd H) ∨ ((Itl K l).go i H ∧ ∃ Nx : Hp → Prop, (∀ H', Nx H' → ∃ m', m' < m ∧ W (i + 1) m' H') ∧ ∀ x H', (Itl K l).yld i H x H' → g x (wipe σ vs) H' fun σ2 H2 => wipe σ2 vs = wipe σ vs ∧ tt σ2 H2 fun b H3 =>
        if b = true then te σ2 H3 fun y H4 => ∃ acc, H4 D = some (.lst acc) ∧ acc.length < sizeLine ∧ Nx (upd H4 D (.lst (acc ++ [y]))) else Nx H3) := by
  obtain ⟨ts, hl, ht, rfl⟩ := hC
  rw [List.length_map] at few
  refine lc_list (K := K) (a := l) (xs := ts.map fun t => V.ref t.1) (fun i H' => Same H1 H' ∧ ∃ us : List (Addr × Pr), H' D = some (.lst (us.map fun t => V.ref t.1)) ∧ (∀ t ∈ us, H' t.1 = some (.tup [.int t.2.1, .int t.2.2])) ∧ us.map (·.2) = (((ts.map (·.2)).take i).filter pr).map f)
    ⟨newS nD, [], upd_same, fun _ m => (by cases m), rfl⟩ (fun i H' _ p => lst_of (p.1 _ _ hl)) ?_ ?_
  · rintro i x H' hi ⟨sm, us, h1, h2, h3⟩
    obtain ⟨t, mt, rfl, hp⟩ := item_cells (H := H') hi rfl
    have ul : us.length ≤ i := by
      have z := congrArg List.length h3
      rw [List.length_map, List.length_map] at z
      have := List.length_filter_le pr ((ts.map (·.2)).take i)
      rw [List.length_take] at this
      omega
    refine hs t.1 t.2 H' _ _ sm (sm _ _ (ht t mt)) (fun hp1 t2 n2 => ⟨us.map fun t => V.ref t.1, ?_, ?_, ?_, us ++ [(t2, f t.2)], ?_, ?_, ?_⟩) fun hp0 => ⟨sm, us, h1, h2, ?_⟩
    · exact newS n2 _ _ h1
    · rw [List.length_map]
      have := (List.getElem?_eq_some_iff.mp hi).1
      rw [List.length_map] at this
      omega
    · exact mutS (sm.trans (newS n2)) nD
    · rw [upd_same, List.map_append]
      rfl
    · have nD2 : t2 ≠ D := fun e => by
        rw [e, h1] at n2
        cases n2
      intro u m
      rcases List.mem_append.mp m with m | m
      · have z := h2 u m
        rw [upd_ne (fun e => ?_)]
        · exact newS n2 _ _ z
        · rw [e, h1] at z
          cases z
      · rw [List.mem_singleton.mp m, upd_ne nD2, upd_same]
    · rw [List.map_append, h3, take_next hp, List.filter_append, List.map_append, List.filter_cons_of_pos hp1]
      rfl
    · rw [h3, take_next hp, List.filter_append, List.filter_cons_of_neg (by rw [hp0]; decide), List.filter_nil, List.append_nil]
  · rintro H' ⟨sm, us, h1, h2, h3⟩
    refine hd H' sm ⟨us, h1, h2, ?_⟩
    rw [h3, List.length_map, List.take_of_length_le (by rw [List.length_map]; exact Nat.le_refl _)]
end
end My
namespace My
open PySem PySem.Spec PyProof.Rows L2 Vx
open TL
local macro_rules | `(tactic| k_invariant "new" ($n, $H:ident, $e:ident, $h:ident)) => `(tactic| (generalize hE : upd _ _ _ = $H; obtain ⟨$e:ident, $h:ident⟩ := gen_e hE $n; clear hE))
local macro_rules | `(tactic| k_places) => `(tactic| first
  | assumption
  | exact lst_of (by assumption)
  | exact tup_of (by assumption)
  | (refine getS (by assumption) ?_; k_places)
  | (refine Same.seq (by assumption) ?_; k_places)
  | (refine tupS (by assumption) ?_; k_places)
  | (refine lst_of ?_; k_places)
  | (refine tup_of ?_; k_places))
local macro_rules | `(tactic| k_subL) => `(tactic| first
  | k_places
  | solve_by_elim (maxDepth := 10) [getS, lst_of, tup_of, Same.seq, tupS])
local macro_rules | `(tactic| k_offL) => `(tactic| first
  | (show (0 : Int) < _; first | omega | decide)
  | (refine ⟨?_, ?_⟩ <;> first | omega | decide)
  | exact .inr ⟨by decide, by decide⟩
  | exact .inl ⟨by decide, by decide⟩
  | exact .inl ⟨by omega, by omega⟩
  | omega)
local macro_rules | `(tactic| k_clsL) => `(tactic| exact Nat.le_of_ble_eq_true rfl)
local macro_rules | `(tactic| k_upd) => `(tactic| simp only [L2.start, List.map_cons, List.map_nil, List.length_cons, List.length_nil, List.replicate_succ, List.replicate_zero, List.cons_append, List.nil_append, List.set_cons_zero, List.set_cons_succ])
section
variable {P : Program} {w : World} {K : PySem.W.Frag} {mg : Str → Option Value} {base : Heap}
theorem bitsOf_any (h w : Nat) : ∀ l : List Pr, ∃ B, BitsOf h w B l
  | [] => ⟨0, fun j => by simp⟩
  | x :: l => by
    obtain ⟨B, hB⟩ := bitsOf_any h w l
    refine ⟨B ||| 2 ^ posR h w x, fun j => ?_⟩
    rw [Nat.testBit_or, Nat.testBit_two_pow, Bool.or_eq_true, hB j, decide_eq_true_iff]
    constructor
    · rintro (⟨y, m, e⟩ | e)
      · exact ⟨y, List.mem_cons_of_mem _ m, e⟩
      · exact ⟨x, List.mem_cons_self, e⟩
    · rintro ⟨y, m, e⟩
      rcases List.mem_cons.mp m with m | m
      · rw [m] at e
        exact .inr e
      · exact .inl ⟨y, m, e⟩
theorem gName_go {i : Nat} {v : V} {σ : L2.St} {H : Hp} {Q : L2.St → Hp → Prop} (h : Q (σ.set i (some v)) H) : gName i v σ H Q := h
def sp_law (K : PySem.W.Frag) : Sp := fun vs H Q _ => ∃ (a : Addr) (ns : List Int), vs = [.ref a] ∧ SqL K H a (ns.map V.int) ∧ ns.length ≤ 63 ∧ ∀ H', Q (.bl true) H'
theorem ok_law (T : Txt K mg) : FnOk P w K mg base CX0 12 T.f_law T.d_law ["script"] (sp_law K) := by
  refine T.F_law.ok sc_law (fun vs H Q E h => ?_) (fun cdv A outer s H vs Q E hr h => ?_)
  · obtain ⟨a, ns, rfl, _⟩ := h
    rfl
  · obtain ⟨a, ns, rfl, hS, hlen, q⟩ := h
    refine ⟨_, (pss_cons (ps_asg (pe_call (ok_law_numbers T) (hr.mono (by decide)) (by rfl) T.g_law_numbers T.F_law_numbers.kp T.b_law_numbers .nil pass0 (pa_cons (pe_call (ok_law_cell T) (hr.mono (by decide)) (by rfl) T.g_law_cell T.F_law_cell.kp T.b_law_cell .nil pass0 (pa_cons (pv 0) (pa_cons pe_int pa_nil))) pa_nil)) (pg_tupK (K := K) (n := 2) rfl rfl (pgs_cons (pg_name (i := 1) sc_law.nd rfl (.inl rfl)) (pgs_cons (pg_name (i := 2) sc_law.nd rfl (.inl rfl)) pgs_nil))))
      (pss_cons (ps_set (i := 3) sc_law.nd rfl (.inl rfl) (pe_make T.M_Rule (ok_Rule_init T) (hr.mono (by decide)) rfl T.g_Rule T.b_Rule_init .nil pass0 (pa_cons (pv 1) (pa_cons (pv 2) pa_nil))))
      (pss_cons (ps_set (i := 4) sc_law.nd rfl (.inl rfl) (pe_call (ok_law_cell T) (hr.mono (by decide)) (by rfl) T.g_law_cell T.F_law_cell.kp T.b_law_cell .nil pass0 (pa_cons (pv 0) (pa_cons pe_int pa_nil))))
      (pss_cons (ps_set (i := 5) sc_law.nd rfl (.inr rfl) (pe_op op_add pe_int (pe_op op_mod (pv 4) pe_int)))
      (pss_cons (ps_set (i := 6) sc_law.nd rfl (.inr rfl) (pe_op op_add pe_int (pe_op op_mod (pe_op op_fdiv (pv 4) pe_int) pe_int)))
      (pss_cons (ps_set (i := 7) sc_law.nd rfl (.inl rfl) (pe_call (ok_law_some T) (hr.mono (by decide)) (by rfl) T.g_law_some T.F_law_some.kp T.b_law_some .nil pass0 (pa_cons (pe_call (ok_law_cell T) (hr.mono (by decide)) (by rfl) T.g_law_cell T.F_law_cell.kp T.b_law_cell .nil pass0 (pa_cons (pv 0) (pa_cons pe_int pa_nil))) (pa_cons (pe_op op_mod (pe_op op_fdiv (pv 4) pe_int) pe_int) (pa_cons (pv 5) (pa_cons (pv 6) pa_nil))))))
      (pss_cons (ps_set (i := 8) sc_law.nd rfl (.inl rfl) (pe_op op_add pe_int (pe_op op_mul pe_int (pe_op op_mod (pe_op op_fdiv (pv 4) pe_int) pe_int))))
      (pss_cons (ps_set (i := 9) sc_law.nd rfl (.inl rfl) (pe_op op_mod (pe_op op_fdiv (pv 4) pe_int) (pe_op op_add (pe_op op_mul (pe_op op_fdiv (pe_op op_sub (pv 8) pe_int) pe_int) (pe_callB (call_min2 rfl) (by rfl) T.z_min (by decide +kernel) (pa_cons (pv 5) (pa_cons (pv 6) pa_nil)))) pe_int)))
      (pss_cons (ps_set (i := 10) sc_law.nd rfl (.inl rfl) (pe_lst pa_nil))
      (pss_cons (ps_for PassesOwn.never rfl (pi_range1 (by rfl) T.z_range (pa_cons (pv 8) pa_nil)) (pg_name (i := 11) sc_law.nd rfl (.inr rfl))
      (pss_one (ps_for PassesOwn.never rfl (pi_range1 (by rfl) T.z_range (pa_cons (pv 8) pa_nil)) (pg_name (i := 12) sc_law.nd rfl (.inr rfl))
      (pss_one (ps_set (i := 10) sc_law.nd rfl (.inl rfl) (pe_op op_cat (pv 10) (pe_lc (own := [("r", 20), ("c", 21)]) (tt := tYes) rfl sc_law.nd (pi_list (pv 7)) (blkOk_by (own := [("r", 20), ("c", 21)]) (N := N_law) (sc := defScope s_law) (by decide +kernel)) (fun _ _ _ _ _ => (pg_tupK (K := K) (n := 2) rfl rfl (pgs_cons (pg_name (i := 20) sc_law.nd rfl (.inl rfl)) (pgs_cons (pg_name (i := 21) sc_law.nd rfl (.inl rfl)) pgs_nil)))) (fun _ _ _ _ _ => pts_nil) (fun _ _ _ _ _ => (pe_tup (pa_cons (pe_op op_add (pv 20) (pe_op op_mul (pv 11) (pv 5))) (pa_cons (pe_op op_add (pv 21) (pe_op op_mul (pv 12) (pv 6))) pa_nil)))))))))))
      (pss_cons (ps_set (i := 13) sc_law.nd rfl (.inl rfl) (pe_callB cr_sortedC (by rfl) T.z_sorted (by decide +kernel) (pa_cons (pv 10) pa_nil)))
      (pss_cons (ps_set (i := 14) sc_law.nd rfl (.inl rfl) (pe_call (ok_unrolled T) (hr.mono (by decide)) (by rfl) T.g_unrolled T.F_unrolled.kp T.b_unrolled .nil pass0 (pa_cons (pe_revL (pv 7)) (pa_cons (pv 5) (pa_cons (pv 6) (pa_cons (pv 8) (pa_cons (pv 8) pa_nil)))))))
      (pss_cons (ps_if (PW.pt (pw_or (pt_not (pt_val (pe_call (ok_law_cells T) (hr.mono (by decide)) (by rfl) T.g_law_cells T.F_law_cells.kp T.b_law_cells .nil pass0 (pa_cons (pv 14) pa_nil)))) (pw_or (pt_cmpR (op_neD hr.units) (pv 14) (pv 13) (nomark _)) (pw_or1 (pt_cmpR (op_neD hr.units) (pe_call (ok_unrolled T) (hr.mono (by decide)) (by rfl) T.g_unrolled T.F_unrolled.kp T.b_unrolled .nil pass0 (pa_cons (pv 7) (pa_cons (pv 5) (pa_cons (pv 6) (pa_cons pe_int (pa_cons pe_int pa_nil)))))) (pv 7) (nomark _))))))
      (pss_one (ps_ret pe_bl))
      pss_nil)
      (pss_cons (ps_set (i := 15) sc_law.nd rfl (.inl rfl) (pe_call (ok_unrolled T) (hr.mono (by decide)) (by rfl) T.g_unrolled T.F_unrolled.kp T.b_unrolled .nil pass0 (pa_cons (pv 7) (pa_cons (pv 5) (pa_cons (pv 6) (pa_cons pe_int (pa_cons pe_int pa_nil)))))))
      (pss_cons (ps_if (pt_cmpR (op_neD hr.units) (pv 15) (pe_callB cr_sortedC (by rfl) T.z_sorted (by decide +kernel) (pa_cons (pe_op op_cat (pv 7) (pe_lc (own := [("r", 20), ("c", 21)]) (tt := tYes) rfl sc_law.nd (pi_list (pv 7)) (blkOk_by (own := [("r", 20), ("c", 21)]) (N := N_law) (sc := defScope s_law) (by decide +kernel)) (fun _ _ _ _ _ => (pg_tupK (K := K) (n := 2) rfl rfl (pgs_cons (pg_name (i := 20) sc_law.nd rfl (.inl rfl)) (pgs_cons (pg_name (i := 21) sc_law.nd rfl (.inl rfl)) pgs_nil)))) (fun _ _ _ _ _ => pts_nil) (fun _ _ _ _ _ => (pe_tup (pa_cons (pv 20) (pa_cons (pe_op op_add (pv 21) (pv 6)) pa_nil)))))) pa_nil)) (nomark _))
      (pss_one (ps_ret pe_bl))
      pss_nil)
      (pss_cons (ps_for PassesOwn.never rfl (pi_range1 (by rfl) T.z_range (pa_cons (pv 9) pa_nil)) (pg_name (i := 16) sc_law.nd rfl (.inl rfl))
      (pss_one (ps_set (i := 13) sc_law.nd rfl (.inl rfl) (pe_call (ok_law_next T) (hr.mono (by decide)) (by rfl) T.g_law_next T.F_law_next.kp T.b_law_next .nil pass0 (pa_cons (pv 13) (pa_cons (pv 1) (pa_cons (pv 2) pa_nil)))))))
      (pss_cons (ps_set (i := 17) sc_law.nd rfl (.inr rfl) (pe_op op_mul (pe_op op_fdiv (pv 8) pe_int) (pv 5)))
      (pss_cons (ps_set (i := 18) sc_law.nd rfl (.inr rfl) (pe_op op_mul (pe_op op_fdiv (pv 8) pe_int) (pv 6)))
      (pss_cons (ps_setLc (i := 19) (own := [("r", 20), ("c", 21)]) rfl sc_law.nd rfl rfl (sw_true rfl rfl rfl (by decide +kernel)) (pi_list (pv 13)) (blkOk_by (own := [("r", 20), ("c", 21)]) (N := N_law) (sc := defScope s_law) (by decide +kernel)) (fun _ _ _ _ _ => (pg_tupK (K := K) (n := 2) rfl rfl (pgs_cons (pg_name (i := 20) sc_law.nd rfl (.inl rfl)) (pgs_cons (pg_name (i := 21) sc_law.nd rfl (.inl rfl)) pgs_nil)))) (fun _ _ _ _ _ => pts_one (PW.pt (pw_and (pt_chain op_le op_lt (pv 17) (pv 20) (pe_op op_add (pv 17) (pv 5))) (pw_and1 (pt_chain op_le op_lt (pv 18) (pv 21) (pe_op op_add (pv 18) (pv 6))))))) (fun _ _ _ _ _ => (pe_tup (pa_cons (pe_op op_sub (pv 20) (pv 17)) (pa_cons (pe_op op_sub (pv 21) (pv 18)) pa_nil)))))
      (pss_one (ps_ret (pe_cmpR (op_eqD hr.units) (pe_call (ok_ring_grown T) (hr.mono (by decide)) (by rfl) T.g_ring_grown T.F_ring_grown.kp T.b_ring_grown .nil pass0 (pa_cons (pv 7) (pa_cons (pv 3) (pa_cons (pv 5) (pa_cons (pv 6) (pa_cons (pv 9) pa_nil)))))) (pv 19) (nomark _))))))))))))))))))))))), ?_⟩
    k_upd
    refine ⟨_, rfl, a, ns, 0, rfl, hS, ?_⟩
    generalize cellOf ns 0 = z0
    refine ⟨z0, rfl, fun H1 p1 pb pss bs ss e1 g1 gb gs' good1 good0 => ?_⟩
    refine ⟨p1, _, rfl, tup_of g1, rfl, _, _, rfl, _, _, rfl, rfl, ?_⟩
    k_upd
    refine ⟨_, rfl, _, rfl, ?_⟩
    intro r dx nx nd nex
    refine ⟨H1, r, pb, pss, dx, bs, ss, rfl, madeS nx nd, nx, upd_same, lst_of gb, lst_of gs', by have := good1.2.2; omega, by have := good0.2.2; omega, fun H2 bs' ss' e2 ra c1 c2 => ⟨rfl, ?_⟩⟩
    have eb : bs' = bs := canon_eq c1 good1.1 fun _ => Iff.rfl
    have es : ss' = ss := canon_eq c2 good0.1 fun _ => Iff.rfl
    subst eb es
    have hb := good1.2.1
    have hss := good0.2.1
    k_upd
    refine ⟨_, rfl, a, ns, 1, rfl, (e1.trans e2).seq hS, ?_⟩
    generalize cellOf ns 1 = first
    k_upd
    have q1 := Int.emod_nonneg first (show (5 : Int) ≠ 0 by decide)
    have q2 := Int.emod_lt_of_pos first (show (0 : Int) < 5 by decide)
    obtain ⟨h, eh⟩ := Int.eq_ofNat_of_zero_le (show 0 ≤ 1 + first % 5 by omega)
    refine ⟨_, rfl, _, _, rfl, rfl, (by k_offL), _, _, rfl, rfl, ?_⟩
    dsimp only
    rw [eh]
    refine gName_go ?_
    k_upd
    have q3 := Int.emod_nonneg (first / 5) (show (5 : Int) ≠ 0 by decide)
    have q4 := Int.emod_lt_of_pos (first / 5) (show (0 : Int) < 5 by decide)
    obtain ⟨w, ew⟩ := Int.eq_ofNat_of_zero_le (show 0 ≤ 1 + first / 5 % 5 by omega)
    refine ⟨_, rfl, _, _, rfl, rfl, (by k_offL), _, _, rfl, rfl, (by k_offL), _, _, rfl, rfl, ?_⟩
    dsimp only
    rw [ew]
    refine gName_go ?_
    k_upd
    have h0 : 0 < h := by omega
    have w0 : 0 < w := by omega
    have h5 : h ≤ 5 := by omega
    have w5 : w ≤ 5 := by omega
    have q5 := Int.emod_nonneg (first / 25) (show (16 : Int) ≠ 0 by decide)
    have q6 := Int.emod_lt_of_pos (first / 25) (show (0 : Int) < 16 by decide)
    refine ⟨_, rfl, a, ns, 2, rfl, (e1.trans e2).seq hS, _, rfl, _, _, rfl, rfl, (by k_offL), _, _, rfl, rfl, (by k_offL), _, rfl, _, rfl, ?_⟩
    refine ⟨_, _, _, _, rfl, q5, by omega, by omega, by omega, by omega, by omega, fun H3 pc ps n3 e3 hC pw lps box => ?_⟩
    k_upd
    have lc : ps.length ≤ 15 := by omega
    have gb3 := e3 _ _ (e2 _ _ gb)
    have gs3 := e3 _ _ (e2 _ _ gs')
    have ra3 := ra.up e3
    clear hS ra c1 c2 gb gs' g1 e1 e2 e3 nx nd nex good1 good0 n3 lps
    -- m
    have q7 := Int.emod_nonneg (first / 400) (show (2 : Int) ≠ 0 by decide)
    have q8 := Int.emod_lt_of_pos (first / 400) (show (0 : Int) < 2 by decide)
    obtain ⟨q', eq'⟩ := Int.eq_ofNat_of_zero_le (show 0 ≤ 1 + first / 400 % 2 by omega)
    have q12 : 1 ≤ q' ∧ q' ≤ 2 := by omega
    refine ⟨_, rfl, _, _, rfl, rfl, (by k_offL), _, _, rfl, rfl, (by k_offL), _, _, rfl, rfl, .inl ⟨by decide, by decide⟩, _, _, rfl, rfl, ?_⟩
    dsimp only
    rw [show (3 : Int) + 2 * (first / 400 % 2) = ((2 * q' + 1 : Nat) : Int) by omega]
    refine gName_go ?_
    k_upd
    -- the generations
    obtain ⟨mn, emn⟩ : ∃ mn : Nat, mn = min h w := ⟨_, rfl⟩
    have hmin : (if ((w : Nat) : Int) < ((h : Nat) : Int) then ((w : Nat) : Int) else ((h : Nat) : Int)) = ((mn : Nat) : Int) := by
      rw [emn]
      by_cases c : ((w : Nat) : Int) < ((h : Nat) : Int)
      · rw [if_pos c]
        omega
      · rw [if_neg c]
        omega
    have hq2 : (((2 * q' + 1 : Nat) : Int) - 1) / 2 = ((q' : Nat) : Int) := by omega
    have hmod : (((2 * q' + 1 : Nat) : Int) - 1) / 2 * (if ((w : Nat) : Int) < ((h : Nat) : Int) then ((w : Nat) : Int) else ((h : Nat) : Int)) + 1 = ((q' * mn + 1 : Nat) : Int) := by
      rw [hmin, hq2]
      exact_mod_cast rfl
    have g0 := Int.emod_nonneg (first / 800) (show ((q' * mn + 1 : Nat) : Int) ≠ 0 by omega)
    have g1 := Int.emod_lt_of_pos (first / 800) (show (0 : Int) < ((q' * mn + 1 : Nat) : Int) by omega)
    obtain ⟨gen, egen⟩ := Int.eq_ofNat_of_zero_le g0
    have genl : gen ≤ q' * mn := by omega
    refine ⟨_, rfl, _, _, rfl, rfl, (by k_offL), _, rfl, _, _, rfl, rfl, _, _, rfl, rfl, (by k_offL), _, rfl, _, rfl, _, _, rfl, _, _, rfl, rfl, .inl ⟨by omega, by omega⟩, _, _, rfl, rfl, _, _, rfl, rfl, ?_, ?_⟩
    · dsimp only
      rw [hmod]
      omega
    dsimp only
    rw [hmod, egen]
    refine gName_go ?_
    k_upd
    have gh : gen ≤ q' * h := Nat.le_trans genl (Nat.mul_le_mul_left _ (by omega))
    have gw : gen ≤ q' * w := Nat.le_trans genl (Nat.mul_le_mul_left _ (by omega))
    have g10 : gen ≤ 10 := Nat.le_trans gh (Nat.mul_le_mul q12.2 h5)
    clear g0 g1 egen genl emn hmin hmod hq2 eq' q7 q8 q5 q6 q3 q4 ew q1 q2 eh
    obtain ⟨m, em⟩ : ∃ m, m = 2 * q' + 1 := ⟨_, rfl⟩
    have m5 : m ≤ 5 := by omega
    have m15 : m * m ≤ 25 := Nat.mul_le_mul m5 m5
    have m375 : ps.length * (m * m) ≤ 375 := Nat.mul_le_mul lc m15
    rw [← em]
    have ndp := nodup_lt pw
    have box' : ∀ x ∈ ps, 0 ≤ x.1 ∧ x.1 < (h : Int) ∧ 0 ≤ x.2 ∧ x.2 < (w : Int) := box
    refine ⟨by k_clsL, fun d0 nd0 => ?_⟩
    k_invariant "new" (nd0, H4, e4, g4)
    k_upd
    refine ⟨_, rfl, (m : Int), rfl, by omega, by omega, for_range (lo := 0) (n := ((m : Int)).toNat) (fun i σ H' => ∃ (da : Addr) (x11 x12 : Option V), σ = [some (.ref a), some (.ref pb), some (.ref pss), some (.ref r), some (.int first), some (.int (h : Int)), some (.int (w : Int)), some (.ref pc), some (.int (m : Int)), some (.int (gen : Int)), some (.ref da), x11, x12, none, none, none, none, none, none, none, none, none] ∧ Same H3 H' ∧ Cells H' da ((List.range i).flatMap (dueA h w m ps)))
      ⟨d0, _, _, rfl, e4, [], g4, (fun t m => by cases m), rfl⟩ ?_ ?_⟩
    · rintro i σ H5 hi ⟨da, x11, x12, rfl, s5, hD5⟩
      have hi : i < m := by omega
      k_upd
      refine ⟨_, rfl, (m : Int), rfl, by omega, by omega, for_range (lo := 0) (n := ((m : Int)).toNat) (fun j σ H' => ∃ (da : Addr) (x12 : Option V), σ = [some (.ref a), some (.ref pb), some (.ref pss), some (.ref r), some (.int first), some (.int (h : Int)), some (.int (w : Int)), some (.ref pc), some (.int (m : Int)), some (.int (gen : Int)), some (.ref da), some (.int (0 + (i : Int))), x12, none, none, none, none, none, none, none, none, none] ∧ Same H3 H' ∧ Cells H' da ((List.range i).flatMap (dueA h w m ps) ++ (List.range j).flatMap (dueB h w ps i)))
        ⟨da, _, rfl, s5, by rw [List.range_zero, List.flatMap_nil, List.append_nil]; exact hD5⟩ ?_ ?_⟩
      · rintro j σ H6 hj ⟨da, x12, rfl, s6, hD6⟩
        have hj : j < m := by omega
        k_upd
        have hC6 := hC.up s6
        refine ⟨_, rfl, _, rfl, pc, rfl, ⟨_, lst_of hC6.choose_spec.1⟩, fun D nD => lc_cells (fun x => cpy h w i j x) hC6 nD (by rw [sizeLine_eq]; omega) ?_ fun H7 e7 h7 => ?_⟩
        · intro t x H' Po Pn _ ht hq
          refine ⟨t, _, rfl, tup_of ht, rfl, _, _, rfl, _, _, rfl, rfl, wipe2 _ 20 21 _ _, tyesT ⟨_, rfl, _, rfl, _, rfl, _, _, rfl, rfl, .inl ⟨by omega, by omega⟩, _, _, rfl, rfl, _, rfl, _, rfl, _, rfl, _, _, rfl, rfl, .inl ⟨by omega, by omega⟩, _, _, rfl, rfl, by k_clsL, fun t2 n2 => ?_⟩⟩
          have := hq t2 n2
          unfold cpy at this
          dsimp only at this
          rw [← Int.zero_add (i : Int), ← Int.zero_add (j : Int)] at this
          exact this
        · obtain ⟨ta, a1, a2, a3⟩ := hD6.up e7
          obtain ⟨tb, b1, b2, b3⟩ := h7
          have la : ta.length ≤ 375 := by
            have z := congrArg List.length a3
            rw [List.length_map, List.length_append, flat_len fun d _ => dueA_len h w m ps d, flat_len (k := ps.length) fun e _ => by unfold dueB; rw [List.length_map], List.length_range, List.length_range] at z
            have h1 : (i * m + j) * ps.length ≤ (m * m) * ps.length := Nat.mul_le_mul_right _ (by
              have : (i + 1) * m ≤ m * m := Nat.mul_le_mul_right _ hi
              rw [Nat.succ_mul] at this
              omega)
            rw [Nat.add_mul, Nat.mul_assoc i] at h1
            rw [Nat.mul_comm (m * m)] at h1
            omega
          have lb : tb.length ≤ 15 := by
            have z := congrArg List.length b3
            rw [List.length_map, List.length_map] at z
            omega
          refine ⟨da, D, _, _, rfl, rfl, a1, b1, by rw [List.length_map, List.length_map, sizeLine_eq]; omega, fun p np => ?_⟩
          k_invariant "new" (np, H8, e8, g8)
          refine ⟨p, _, rfl, (s6.trans e7).trans e8, ta ++ tb, by rw [g8, List.map_append], fun t m => e8 _ _ ((List.mem_append.mp m).elim (a2 t) (b2 t)), ?_⟩
          rw [List.map_append, a3, b3, range_flat, List.append_assoc]
          rfl
      · rintro σ H6 ⟨da, x12, rfl, s6, hD6⟩
        refine ⟨da, _, _, rfl, s6, ?_⟩
        rw [range_flat]
        exact hD6
    · rintro σ H5 ⟨da, x11, x12, rfl, s5, hD5⟩
      have hD5 : Cells H5 da (dueU h w m ps) := hD5
      k_upd
      refine ⟨_, rfl, da, _, rfl, hD5, dueU_nodup ndp box', fun pn H6 now e6 n6 hN6 canN lnow => ?_⟩
      k_upd
      have s6 := s5.trans e6
      obtain ⟨tp, hp, htp, etp⟩ := id (hC.up s6)
      refine ⟨_, rfl, pc, _, rfl, lst_of hp, fun pr npr => ?_⟩
      k_invariant "new" (npr, H7, e7, g7)
      have s7 := s6.trans e7
      have hR7 : Cells H7 pr ps.reverse := ⟨tp.reverse, by rw [g7, List.map_reverse], fun t m => e7 _ _ (htp t (List.mem_reverse.mp m)), by rw [List.map_reverse, etp]⟩
      refine ⟨_, rfl, _, rfl, _, rfl, _, rfl, pr, h, w, m, m, ps.reverse, rfl, hR7, by omega, by omega, by omega, by omega, by rw [List.length_reverse]; omega, fun H8 pt told n8 e8 hT8 canT => ?_⟩
      have etold : told = now := ascP_eq canT.1 canN.1 fun y => by
        rw [canT.2, canN.2, mem_dueU, mem_cpyU, mem_cpyU]
        exact ⟨fun ⟨x, mx, z⟩ => ⟨x, List.mem_reverse.mp mx, z⟩, fun ⟨x, mx, z⟩ => ⟨x, List.mem_reverse.mpr mx, z⟩⟩
      rw [etold] at hT8
      k_upd
      refine ⟨_, rfl, pt, now, rfl, hT8, canN.1, fun H9 e9 => ⟨_, rfl, iteF ?_⟩⟩
      refine ⟨_, rfl, _, rfl, _, _, dp_cells (hT8.up e9), dp_cells (((hN6.up e7).up e8).up e9), shaped_cells _, shaped_cells _, _, ne_cells rfl, iteF ?_⟩
      have s9 := (s7.trans e8).trans e9
      have hC9 := hC.up s9
      refine ⟨_, rfl, _, rfl, _, rfl, pc, h, w, 1, 1, ps, rfl, hC9, by omega, by omega, by decide, by decide, by omega, fun H10 p1 one n10 e10 h10 can1 => ?_⟩
      have eone : one = ps := ascP_eq can1.1 pw fun y => by
        rw [can1.2, mem_cpyU]
        constructor
        · rintro ⟨x, mx, d, hd, e, he, rfl⟩
          have d0 : d = 0 := by omega
          have e0 : e = 0 := by omega
          subst d0 e0
          have : cpy h w 0 0 x = x := by
            unfold cpy
            refine Prod.ext ?_ ?_ <;> dsimp only <;> omega
          rw [this]
          exact mx
        · intro my
          refine ⟨y, my, 0, by decide, 0, by decide, ?_⟩
          unfold cpy
          refine Prod.ext ?_ ?_ <;> dsimp only <;> omega
      rw [eone] at h10
      refine ⟨_, rfl, _, _, dp_cells h10, dp_cells (hC9.up e10), shaped_cells _, shaped_cells _, _, ne_cells rfl, iteF ?_⟩
      k_upd
      have s10 := s9.trans e10
      have hC10 := hC.up s10
      have hN10 : Cells H10 pn now := (((hN6.up e7).up e8).up e9).up e10
      refine ⟨_, rfl, _, rfl, _, rfl, pc, h, w, 1, 2, ps, rfl, hC10, by omega, by omega, by decide, by decide, by omega, fun H11 p2 wide n11 e11 h11 can2 => ?_⟩
      k_upd
      have s11 := s10.trans e11
      have hC11 := hC.up s11
      refine ⟨_, rfl, _, rfl, _, rfl, pc, rfl, ⟨_, lst_of hC11.choose_spec.1⟩, fun D nD => lc_cells (fun x => (x.1, x.2 + (w : Int))) hC11 nD (by rw [sizeLine_eq]; omega) ?_ fun H12 e12 h12 => ?_⟩
      · intro t x H' Po Pn _ ht hq
        exact ⟨t, _, rfl, tup_of ht, rfl, _, _, rfl, _, _, rfl, rfl, wipe2 _ 20 21 _ _, tyesT ⟨_, rfl, _, rfl, _, rfl, _, _, rfl, rfl, by k_clsL, fun t2 n2 => hq t2 n2⟩⟩
      obtain ⟨ta, a1, a2, a3⟩ := hC11.up e12
      obtain ⟨tb, b1, b2, b3⟩ := h12
      have la : ta.length ≤ 15 := by
        have z := congrArg List.length a3
        rw [List.length_map] at z
        omega
      have lb : tb.length ≤ 15 := by
        have z := congrArg List.length b3
        rw [List.length_map, List.length_map] at z
        omega
      refine ⟨pc, D, _, _, rfl, rfl, a1, b1, by rw [List.length_map, List.length_map, sizeLine_eq]; omega, fun p13 n13 => ?_⟩
      k_invariant "new" (n13, H13, e13, g13)
      have hC13 : Cells H13 p13 (ps ++ ps.map fun x => (x.1, x.2 + (w : Int))) := ⟨ta ++ tb, by rw [g13, List.map_append], fun t m => e13 _ _ ((List.mem_append.mp m).elim (a2 t) (b2 t)), by rw [List.map_append, a3, b3]⟩
      have nd13 : (ps ++ ps.map fun x : Pr => (x.1, x.2 + (w : Int))).Nodup := by
        refine List.nodup_append.mpr ⟨ndp, List.Pairwise.map _ (fun _ _ h => h) (ndp.imp fun {x y} ne eq => ne ?_), fun x mx y my e => ?_⟩
        · obtain ⟨z, mz, rfl⟩ := List.mem_map.mp my
          have b1 := box x mx
          have b2 := box z mz
          rw [e] at b1
          dsimp only at b1
          omega
        · injection eq with z1 z2
          exact Prod.ext z1 (by omega)
      refine ⟨p13, _, rfl, hC13, nd13, fun p14 H14 wq e14 n14 h14 canw _ => ?_⟩
      have ewide : wide = wq := ascP_eq can2.1 canw.1 fun y => by
        rw [can2.2, canw.2, mem_cpyU, List.mem_append, List.mem_map]
        constructor
        · rintro ⟨x, mx, d, hd, e, he, rfl⟩
          have d0 : d = 0 := by omega
          subst d0
          match e, he with
          | 0, _ =>
            left
            have : cpy h w 0 0 x = x := by
              unfold cpy
              refine Prod.ext ?_ ?_ <;> dsimp only <;> omega
            rw [this]
            exact mx
          | 1, _ =>
            right
            refine ⟨x, mx, ?_⟩
            unfold cpy
            refine Prod.ext ?_ ?_ <;> dsimp only <;> omega
        · rintro (my | ⟨x, mx, rfl⟩)
          · refine ⟨y, my, 0, by decide, 0, by decide, ?_⟩
            unfold cpy
            refine Prod.ext ?_ ?_ <;> dsimp only <;> omega
          · refine ⟨x, mx, 0, by decide, 1, by decide, ?_⟩
            unfold cpy
            refine Prod.ext ?_ ?_ <;> dsimp only <;> omega
      rw [← ewide] at h14
      refine ⟨_, _, dp_cells (((h11.up e12).up e13).up e14), dp_cells h14, shaped_cells _, shaped_cells _, _, ne_cells rfl, iteF ?_⟩
      have s14 := ((s11.trans e12).trans e13).trans e14
      have hN14 : Cells H14 pn now := (((hN10.up e11).up e12).up e13).up e14
      have cpb : ∀ y ∈ cpyU h w m m ps, (0 : Int) ≤ y.1 ∧ y.1 ≤ 24 ∧ (0 : Int) ≤ y.2 ∧ y.2 ≤ 24 := fun y my => by
        obtain ⟨x, mx, d, hd, e, he, rfl⟩ := mem_cpyU.mp my
        have b := box x mx
        have h1 : d * h ≤ 4 * 5 := Nat.mul_le_mul (by omega) h5
        have h2 : e * w ≤ 4 * 5 := Nat.mul_le_mul (by omega) w5
        have z1 : (d : Int) * (h : Int) = ((d * h : Nat) : Int) := (Int.natCast_mul ..).symm
        have z2 : (e : Int) * (w : Int) = ((e * w : Nat) : Int) := (Int.natCast_mul ..).symm
        unfold cpy
        dsimp only
        rw [z1, z2]
        omega
      have L0 : ∀ r c, memL (cpyU h w m m ps) r c = true → (0 : Int) ≤ r ∧ r ≤ 24 ∧ (0 : Int) ≤ c ∧ c ≤ 24 := fun r c z => cpb (r, c) (of_decide_eq_true z)
      clear a1 a2 a3 b1 b2 b3 hC13 nd13 h14 hT8 h10 h11 hR7
      refine ⟨_, rfl, (gen : Int), rfl, by omega, by omega, for_range (lo := 0) (n := ((gen : Int)).toNat) (fun i σ H' => ∃ (px : Addr) (es : List Pr) (x11 x12 x14 x15 x16 : Option V), σ = [some (.ref a), some (.ref pb), some (.ref pss), some (.ref r), some (.int first), some (.int (h : Int)), some (.int (w : Int)), some (.ref pc), some (.int (m : Int)), some (.int (gen : Int)), some (.ref da), x11, x12, some (.ref px), x14, x15, x16, none, none, none, none, none] ∧ Same H3 H' ∧ Cells H' px es ∧ es.Pairwise ltP ∧ ∀ x, x ∈ es ↔ genL bs' ss' (memL (cpyU h w m m ps)) i x.1 x.2 = true)
        ⟨pn, now, _, _, _, _, _, rfl, s14, hN14, canN.1, fun x => by rw [canN.2, mem_dueU]; exact decide_eq_true_iff.symm⟩ ?_ ?_⟩
      · rintro i σ H15 hi ⟨px, es, x11, x12, x14, x15, x16, rfl, s15, hE, pwE, memE⟩
        have boxE : ∀ x ∈ es, -10 ≤ x.1 ∧ x.1 < -10 + ((45 : Nat) : Int) ∧ -10 ≤ x.2 ∧ x.2 < -10 + ((45 : Nat) : Int) := fun x m => by
          have := gen_box hb L0 i x.1 x.2 ((memE x).mp m)
          omega
        have lE := box_lenN (nodup_lt pwE) boxE
        refine ⟨_, rfl, _, rfl, _, rfl, px, pb, pss, es, bs', ss', rfl, hE, s15 _ _ gb3, s15 _ _ gs3, hb, by omega, fun H16 p16 es2 n16 e16 h16 pw16 mem16 => ?_⟩
        refine ⟨p16, es2, _, _, _, _, _, rfl, s15.trans e16, h16, pw16, fun x => (mem16 x).trans ?_⟩
        rw [stepL_congr (M := genL bs' ss' (memL (cpyU h w m m ps)) i) fun r c => ?_]
        · exact Iff.rfl
        · unfold memL
          rw [Bool.eq_iff_iff, decide_eq_true_iff, memE]
          exact Iff.rfl
      · rintro σ H15 ⟨px, es, x11, x12, x14, x15, x16, rfl, s15, hE, pwE, memE⟩
        have memE : ∀ x, x ∈ es ↔ genL bs' ss' (memL (cpyU h w m m ps)) gen x.1 x.2 = true := memE
        have lE : es.length < sizeLine := by
          have boxE : ∀ x ∈ es, -10 ≤ x.1 ∧ x.1 < -10 + ((45 : Nat) : Int) ∧ -10 ≤ x.2 ∧ x.2 < -10 + ((45 : Nat) : Int) := fun x m => by
            have := gen_box hb L0 gen x.1 x.2 ((memE x).mp m)
            omega
          have := box_lenN (nodup_lt pwE) boxE
          rw [sizeLine_eq]
          omega
        have hq3 : ((m : Nat) : Int) / 2 = ((q' : Nat) : Int) := by omega
        have ht1 : ((m : Nat) : Int) / 2 * (h : Int) = ((q' * h : Nat) : Int) := by
          rw [hq3]
          exact (Int.natCast_mul ..).symm
        have ht2 : ((m : Nat) : Int) / 2 * (w : Int) = ((q' * w : Nat) : Int) := by
          rw [hq3]
          exact (Int.natCast_mul ..).symm
        k_upd
        refine ⟨_, rfl, _, _, rfl, rfl, (by k_offL), _, rfl, _, _, rfl, rfl, .inl ⟨by omega, by omega⟩, ?_⟩
        dsimp only
        rw [ht1]
        refine gName_go ?_
        k_upd
        refine ⟨_, rfl, _, _, rfl, rfl, (by k_offL), _, rfl, _, _, rfl, rfl, .inl ⟨by omega, by omega⟩, ?_⟩
        dsimp only
        rw [ht2]
        refine gName_go ?_
        k_upd
        obtain ⟨tpn, etp2⟩ : ∃ tpn : Int, tpn = ((q' * h : Nat) : Int) := ⟨_, rfl⟩
        obtain ⟨lfn, elf⟩ : ∃ lfn : Int, lfn = ((q' * w : Nat) : Int) := ⟨_, rfl⟩
        obtain ⟨b0, hB⟩ : ∃ b0, BitsOf h w b0 ps := bitsOf_any h w ps
        have mid := middle_eq (q := q') hb hss h0 w0 hB box' gh gw pwE (by rw [← em]; exact memE)
        rw [Int.natCast_add, Int.natCast_add, ← etp2, ← elf] at mid
        rw [← etp2, ← elf]
        refine ⟨_, rfl, px, rfl, ⟨_, lst_of hE.choose_spec.1⟩, fun D2 nD2 => lc_cellsF (fun x => (x.1 - tpn, x.2 - lfn)) (inM tpn (tpn + (h : Int)) lfn (lfn + (w : Int))) hE nD2 lE ?_ fun H16 e16 h16 => ?_⟩
        · intro t x H' Po Pn _ ht hp1 hp0
          refine ⟨t, _, rfl, tup_of ht, rfl, _, _, rfl, _, _, rfl, rfl, wipe2 _ 20 21 _ _, ?_⟩
          refine ⟨_, rfl, _, rfl, _, _, rfl, rfl, _, rfl, ite2 (fun c1 => ?_) (fun c1 => ?_)⟩
          · refine ⟨_, rfl, _, rfl, _, _, rfl, rfl, _, _, rfl, rfl, _, rfl, ite2 (fun c2 => ?_) (fun c2 => ?_)⟩
            · refine ⟨_, rfl, _, rfl, _, _, rfl, rfl, _, rfl, ite2 (fun c3 => ?_) (fun c3 => ?_)⟩
              · refine ⟨_, rfl, _, rfl, _, _, rfl, rfl, _, _, rfl, rfl, _, rfl, ite2 (fun c4 => ?_) (fun c4 => ?_)⟩
                · refine ⟨_, rfl, _, rfl, _, _, rfl, rfl, _, rfl, _, rfl, _, _, rfl, rfl, by k_clsL, fun t2 n2 => hp1 ?_ t2 n2⟩
                  unfold inM
                  rw [c1, c2, c3, c4]
                  rfl
                · refine hp0 ?_
                  unfold inM
                  rw [c1, c2, c3, Bool.eq_false_iff.mpr c4]
                  rfl
              · refine ⟨_, rfl, iteF (hp0 ?_)⟩
                unfold inM
                rw [c1, c2, Bool.eq_false_iff.mpr c3]
                rfl
            · refine hp0 ?_
              unfold inM
              rw [c1, Bool.eq_false_iff.mpr c2]
              rfl
          · refine ⟨_, rfl, iteF (hp0 ?_)⟩
            unfold inM
            rw [Bool.eq_false_iff.mpr c1]
            rfl
        · rw [mid] at h16
          k_upd
          have s16 := s15.trans e16
          refine ⟨_, rfl, _, rfl, _, rfl, _, rfl, _, rfl, pc, r, h, w, gen, b0, ps, bs', ss', rfl, h0, w0, by omega, by omega, ra3.up s16, hb, hss, hC.up s16, hB, by omega, (fun k hk _ => by omega), fun H17 pg m' n17 e17 pk hC17 => ?_⟩
          rw [pick_it pk] at hC17
          refine ⟨_, rfl, _, _, dp_cells hC17, dp_cells (h16.up e17), shaped_cells _, shaped_cells _, ?_⟩
          rw [eqv_cells, decide_eq_true rfl]
          exact q _
end
end My
namespace My
open PySem PySem.Spec PyProof.Rows L2 Vx
theorem all_mk {l : PySem.W.OpenLaw} {w : World} {K : PySem.W.Frag} {h : Heap} {mg : Str → Option Value} {fa : Addr} (X : K.In h) (G : h.Ns mainGlobals mg) (hfa : mg "law" = some (.ref fa))
    {C_Ring : Addr}
    {C_Rule : Addr}
    {f_sums_of : Addr} {odsums_of ansums_of : Option Addr} {slsums_of : Array (Option Value)} {ocsums_of kVsums_of dcsums_of pmsums_of cdsums_of ctsums_of : Value}
    {f_totals_of : Addr} {odtotals_of antotals_of : Option Addr} {sltotals_of : Array (Option Value)} {octotals_of kVtotals_of dctotals_of pmtotals_of cdtotals_of cttotals_of : Value}
    {f_next_strip : Addr} {odnext_strip annext_strip : Option Addr} {slnext_strip : Array (Option Value)} {ocnext_strip kVnext_strip dcnext_strip pmnext_strip cdnext_strip ctnext_strip : Value}
    {f_pattern : Addr} {odpattern anpattern : Option Addr} {slpattern : Array (Option Value)} {ocpattern kVpattern dcpattern pmpattern cdpattern ctpattern : Value}
    {f_Ring_init : Addr} {odRing_init anRing_init : Option Addr} {slRing_init : Array (Option Value)} {ocRing_init kVRing_init dcRing_init pmRing_init cdRing_init ctRing_init : Value}
    {f_Ring_bits : Addr} {odRing_bits anRing_bits : Option Addr} {slRing_bits : Array (Option Value)} {ocRing_bits kVRing_bits dcRing_bits pmRing_bits cdRing_bits ctRing_bits : Value}
    {f_Ring_cells : Addr} {odRing_cells anRing_cells : Option Addr} {slRing_cells : Array (Option Value)} {ocRing_cells kVRing_cells dcRing_cells pmRing_cells cdRing_cells ctRing_cells : Value}
    {f_Ring_after : Addr} {odRing_after anRing_after : Option Addr} {slRing_after : Array (Option Value)} {ocRing_after kVRing_after dcRing_after pmRing_after cdRing_after ctRing_after : Value}
    {f_Ring_from_left : Addr} {odRing_from_left anRing_from_left : Option Addr} {slRing_from_left : Array (Option Value)} {ocRing_from_left kVRing_from_left dcRing_from_left pmRing_from_left cdRing_from_left ctRing_from_left : Value}
    {f_Ring_from_right : Addr} {odRing_from_right anRing_from_right : Option Addr} {slRing_from_right : Array (Option Value)} {ocRing_from_right kVRing_from_right dcRing_from_right pmRing_from_right cdRing_from_right ctRing_from_right : Value}
    {f_Ring_from_above : Addr} {odRing_from_above anRing_from_above : Option Addr} {slRing_from_above : Array (Option Value)} {ocRing_from_above kVRing_from_above dcRing_from_above pmRing_from_above cdRing_from_above ctRing_from_above : Value}
    {f_Ring_from_below : Addr} {odRing_from_below anRing_from_below : Option Addr} {slRing_from_below : Array (Option Value)} {ocRing_from_below kVRing_from_below dcRing_from_below pmRing_from_below cdRing_from_below ctRing_from_below : Value}
    {f_Ring_history : Addr} {odRing_history anRing_history : Option Addr} {slRing_history : Array (Option Value)} {ocRing_history kVRing_history dcRing_history pmRing_history cdRing_history ctRing_history : Value}
    {f_ring_grown : Addr} {odring_grown anring_grown : Option Addr} {slring_grown : Array (Option Value)} {ocring_grown kVring_grown dcring_grown pmring_grown cdring_grown ctring_grown : Value}
    {f_unrolled : Addr} {odunrolled anunrolled : Option Addr} {slunrolled : Array (Option Value)} {ocunrolled kVunrolled dcunrolled pmunrolled cdunrolled ctunrolled : Value}
    {f_Rule_init : Addr} {odRule_init anRule_init : Option Addr} {slRule_init : Array (Option Value)} {ocRule_init kVRule_init dcRule_init pmRule_init cdRule_init ctRule_init : Value}
    {f_law_cell : Addr} {odlaw_cell anlaw_cell : Option Addr} {sllaw_cell : Array (Option Value)} {oclaw_cell kVlaw_cell dclaw_cell pmlaw_cell cdlaw_cell ctlaw_cell : Value}
    {f_law_row : Addr} {odlaw_row anlaw_row : Option Addr} {sllaw_row : Array (Option Value)} {oclaw_row kVlaw_row dclaw_row pmlaw_row cdlaw_row ctlaw_row : Value}
    {f_law_integer : Addr} {odlaw_integer anlaw_integer : Option Addr} {sllaw_integer : Array (Option Value)} {oclaw_integer kVlaw_integer dclaw_integer pmlaw_integer cdlaw_integer ctlaw_integer : Value}
    {f_law_cells : Addr} {odlaw_cells anlaw_cells : Option Addr} {sllaw_cells : Array (Option Value)} {oclaw_cells kVlaw_cells dclaw_cells pmlaw_cells cdlaw_cells ctlaw_cells : Value}
    {f_law_numbers : Addr} {odlaw_numbers anlaw_numbers : Option Addr} {sllaw_numbers : Array (Option Value)} {oclaw_numbers kVlaw_numbers dclaw_numbers pmlaw_numbers cdlaw_numbers ctlaw_numbers : Value}
    {f_law_some : Addr} {odlaw_some anlaw_some : Option Addr} {sllaw_some : Array (Option Value)} {oclaw_some kVlaw_some dclaw_some pmlaw_some cdlaw_some ctlaw_some : Value}
    {f_law_next : Addr} {odlaw_next anlaw_next : Option Addr} {sllaw_next : Array (Option Value)} {oclaw_next kVlaw_next dclaw_next pmlaw_next cdlaw_next ctlaw_next : Value}
    {f_law : Addr} {odlaw anlaw : Option Addr} {sllaw : Array (Option Value)} {oclaw kVlaw dclaw pmlaw cdlaw ctlaw : Value}
    (aCRing : PySem.W.nsIn K mainGlobals "Ring" = some (some (.ref C_Ring)))
    (pgRing : PySem.W.plainGet K C_Ring Str.empty = true)
    (hdRing : PySem.W.hasDictIn K C_Ring = true)
    (poRing : PySem.W.plainOver K C_Ring = true)
    (saRing : PySem.W.findIn K (.ref C_Ring) "__setattr__" = some (some (.builtin "object.__setattr__")))
    (mkRing : PySem.W.makesIn K C_Ring = true)
    (kcRing : PySem.W.keepIn K (.ref C_Ring) = true)
    (nRing_rule : PySem.W.findIn K (.ref C_Ring) "_rule" = some none)
    (nRing_height : PySem.W.findIn K (.ref C_Ring) "_height" = some none)
    (nRing_width : PySem.W.findIn K (.ref C_Ring) "_width" = some none)
    (nRing_full : PySem.W.findIn K (.ref C_Ring) "_full" = some none)
    (nRing_first_column : PySem.W.findIn K (.ref C_Ring) "_first_column" = some none)
    (nRing_last_column : PySem.W.findIn K (.ref C_Ring) "_last_column" = some none)
    (aCRule : PySem.W.nsIn K mainGlobals "Rule" = some (some (.ref C_Rule)))
    (pgRule : PySem.W.plainGet K C_Rule Str.empty = true)
    (hdRule : PySem.W.hasDictIn K C_Rule = true)
    (poRule : PySem.W.plainOver K C_Rule = true)
    (saRule : PySem.W.findIn K (.ref C_Rule) "__setattr__" = some (some (.builtin "object.__setattr__")))
    (mkRule : PySem.W.makesIn K C_Rule = true)
    (kcRule : PySem.W.keepIn K (.ref C_Rule) = true)
    (nRulebirths : PySem.W.findIn K (.ref C_Rule) "births" = some none)
    (nRulesurvival : PySem.W.findIn K (.ref C_Rule) "survival" = some none)
    (asums_of : PySem.W.nsIn K mainGlobals "sums_of" = some (some (.ref f_sums_of)))
    (lsums_of : K.lookup f_sums_of = some ⟨ocsums_of, odsums_of, .func (PySem.W.fnOf "sums_of" "sums_of" (defArgs s_sums_of) (defBody s_sums_of) (defScope s_sums_of) .none kVsums_of dcsums_of pmsums_of ansums_of cdsums_of ctsums_of), slsums_of⟩)
    (csums_of : PySem.W.codeIn K cdsums_of "sums_of" = true)
    (ksums_of : PySem.W.keepIn K (.ref f_sums_of) = true)
    (atotals_of : PySem.W.nsIn K mainGlobals "totals_of" = some (some (.ref f_totals_of)))
    (ltotals_of : K.lookup f_totals_of = some ⟨octotals_of, odtotals_of, .func (PySem.W.fnOf "totals_of" "totals_of" (defArgs s_totals_of) (defBody s_totals_of) (defScope s_totals_of) .none kVtotals_of dctotals_of pmtotals_of antotals_of cdtotals_of cttotals_of), sltotals_of⟩)
    (ctotals_of : PySem.W.codeIn K cdtotals_of "totals_of" = true)
    (ktotals_of : PySem.W.keepIn K (.ref f_totals_of) = true)
    (anext_strip : PySem.W.nsIn K mainGlobals "next_strip" = some (some (.ref f_next_strip)))
    (lnext_strip : K.lookup f_next_strip = some ⟨ocnext_strip, odnext_strip, .func (PySem.W.fnOf "next_strip" "next_strip" (defArgs s_next_strip) (defBody s_next_strip) (defScope s_next_strip) .none kVnext_strip dcnext_strip pmnext_strip annext_strip cdnext_strip ctnext_strip), slnext_strip⟩)
    (cnext_strip : PySem.W.codeIn K cdnext_strip "next_strip" = true)
    (knext_strip : PySem.W.keepIn K (.ref f_next_strip) = true)
    (apattern : PySem.W.nsIn K mainGlobals "pattern" = some (some (.ref f_pattern)))
    (lpattern : K.lookup f_pattern = some ⟨ocpattern, odpattern, .func (PySem.W.fnOf "pattern" "pattern" (defArgs s_pattern) (defBody s_pattern) (defScope s_pattern) .none kVpattern dcpattern pmpattern anpattern cdpattern ctpattern), slpattern⟩)
    (cpattern : PySem.W.codeIn K cdpattern "pattern" = true)
    (kpattern : PySem.W.keepIn K (.ref f_pattern) = true)
    (aRing_init : PySem.W.findIn K (.ref C_Ring) "__init__" = some (some (.ref f_Ring_init)))
    (iRing_init : PySem.W.isFn K (.ref f_Ring_init) = true)
    (lRing_init : K.lookup f_Ring_init = some ⟨ocRing_init, odRing_init, .func (PySem.W.fnOf "__init__" "Ring.__init__" (defArgs s_Ring_init) (defBody s_Ring_init) (defScope s_Ring_init) .none kVRing_init dcRing_init pmRing_init anRing_init cdRing_init ctRing_init), slRing_init⟩)
    (cRing_init : PySem.W.codeIn K cdRing_init "Ring.__init__" = true)
    (kRing_init : PySem.W.keepIn K (.ref f_Ring_init) = true)
    (aRing_bits : PySem.W.findIn K (.ref C_Ring) "bits" = some (some (.ref f_Ring_bits)))
    (iRing_bits : PySem.W.isFn K (.ref f_Ring_bits) = true)
    (lRing_bits : K.lookup f_Ring_bits = some ⟨ocRing_bits, odRing_bits, .func (PySem.W.fnOf "bits" "Ring.bits" (defArgs s_Ring_bits) (defBody s_Ring_bits) (defScope s_Ring_bits) .none kVRing_bits dcRing_bits pmRing_bits anRing_bits cdRing_bits ctRing_bits), slRing_bits⟩)
    (cRing_bits : PySem.W.codeIn K cdRing_bits "Ring.bits" = true)
    (kRing_bits : PySem.W.keepIn K (.ref f_Ring_bits) = true)
    (aRing_cells : PySem.W.findIn K (.ref C_Ring) "cells" = some (some (.ref f_Ring_cells)))
    (iRing_cells : PySem.W.isFn K (.ref f_Ring_cells) = true)
    (lRing_cells : K.lookup f_Ring_cells = some ⟨ocRing_cells, odRing_cells, .func (PySem.W.fnOf "cells" "Ring.cells" (defArgs s_Ring_cells) (defBody s_Ring_cells) (defScope s_Ring_cells) .none kVRing_cells dcRing_cells pmRing_cells anRing_cells cdRing_cells ctRing_cells), slRing_cells⟩)
    (cRing_cells : PySem.W.codeIn K cdRing_cells "Ring.cells" = true)
    (kRing_cells : PySem.W.keepIn K (.ref f_Ring_cells) = true)
    (aRing_after : PySem.W.findIn K (.ref C_Ring) "after" = some (some (.ref f_Ring_after)))
    (iRing_after : PySem.W.isFn K (.ref f_Ring_after) = true)
    (lRing_after : K.lookup f_Ring_after = some ⟨ocRing_after, odRing_after, .func (PySem.W.fnOf "after" "Ring.after" (defArgs s_Ring_after) (defBody s_Ring_after) (defScope s_Ring_after) .none kVRing_after dcRing_after pmRing_after anRing_after cdRing_after ctRing_after), slRing_after⟩)
    (cRing_after : PySem.W.codeIn K cdRing_after "Ring.after" = true)
    (kRing_after : PySem.W.keepIn K (.ref f_Ring_after) = true)
    (aRing_from_left : PySem.W.findIn K (.ref C_Ring) "_from_left" = some (some (.ref f_Ring_from_left)))
    (iRing_from_left : PySem.W.isFn K (.ref f_Ring_from_left) = true)
    (lRing_from_left : K.lookup f_Ring_from_left = some ⟨ocRing_from_left, odRing_from_left, .func (PySem.W.fnOf "_from_left" "Ring._from_left" (defArgs s_Ring_from_left) (defBody s_Ring_from_left) (defScope s_Ring_from_left) .none kVRing_from_left dcRing_from_left pmRing_from_left anRing_from_left cdRing_from_left ctRing_from_left), slRing_from_left⟩)
    (cRing_from_left : PySem.W.codeIn K cdRing_from_left "Ring._from_left" = true)
    (kRing_from_left : PySem.W.keepIn K (.ref f_Ring_from_left) = true)
    (aRing_from_right : PySem.W.findIn K (.ref C_Ring) "_from_right" = some (some (.ref f_Ring_from_right)))
    (iRing_from_right : PySem.W.isFn K (.ref f_Ring_from_right) = true)
    (lRing_from_right : K.lookup f_Ring_from_right = some ⟨ocRing_from_right, odRing_from_right, .func (PySem.W.fnOf "_from_right" "Ring._from_right" (defArgs s_Ring_from_right) (defBody s_Ring_from_right) (defScope s_Ring_from_right) .none kVRing_from_right dcRing_from_right pmRing_from_right anRing_from_right cdRing_from_right ctRing_from_right), slRing_from_right⟩)
    (cRing_from_right : PySem.W.codeIn K cdRing_from_right "Ring._from_right" = true)
    (kRing_from_right : PySem.W.keepIn K (.ref f_Ring_from_right) = true)
    (aRing_from_above : PySem.W.findIn K (.ref C_Ring) "_from_above" = some (some (.ref f_Ring_from_above)))
    (iRing_from_above : PySem.W.isFn K (.ref f_Ring_from_above) = true)
    (lRing_from_above : K.lookup f_Ring_from_above = some ⟨ocRing_from_above, odRing_from_above, .func (PySem.W.fnOf "_from_above" "Ring._from_above" (defArgs s_Ring_from_above) (defBody s_Ring_from_above) (defScope s_Ring_from_above) .none kVRing_from_above dcRing_from_above pmRing_from_above anRing_from_above cdRing_from_above ctRing_from_above), slRing_from_above⟩)
    (cRing_from_above : PySem.W.codeIn K cdRing_from_above "Ring._from_above" = true)
    (kRing_from_above : PySem.W.keepIn K (.ref f_Ring_from_above) = true)
    (aRing_from_below : PySem.W.findIn K (.ref C_Ring) "_from_below" = some (some (.ref f_Ring_from_below)))
    (iRing_from_below : PySem.W.isFn K (.ref f_Ring_from_below) = true)
    (lRing_from_below : K.lookup f_Ring_from_below = some ⟨ocRing_from_below, odRing_from_below, .func (PySem.W.fnOf "_from_below" "Ring._from_below" (defArgs s_Ring_from_below) (defBody s_Ring_from_below) (defScope s_Ring_from_below) .none kVRing_from_below dcRing_from_below pmRing_from_below anRing_from_below cdRing_from_below ctRing_from_below), slRing_from_below⟩)
    (cRing_from_below : PySem.W.codeIn K cdRing_from_below "Ring._from_below" = true)
    (kRing_from_below : PySem.W.keepIn K (.ref f_Ring_from_below) = true)
    (aRing_history : PySem.W.findIn K (.ref C_Ring) "history" = some (some (.ref f_Ring_history)))
    (iRing_history : PySem.W.isFn K (.ref f_Ring_history) = true)
    (lRing_history : K.lookup f_Ring_history = some ⟨ocRing_history, odRing_history, .func (PySem.W.fnOf "history" "Ring.history" (defArgs s_Ring_history) (defBody s_Ring_history) (defScope s_Ring_history) .none kVRing_history dcRing_history pmRing_history anRing_history cdRing_history ctRing_history), slRing_history⟩)
    (cRing_history : PySem.W.codeIn K cdRing_history "Ring.history" = true)
    (kRing_history : PySem.W.keepIn K (.ref f_Ring_history) = true)
    (aring_grown : PySem.W.nsIn K mainGlobals "ring_grown" = some (some (.ref f_ring_grown)))
    (lring_grown : K.lookup f_ring_grown = some ⟨ocring_grown, odring_grown, .func (PySem.W.fnOf "ring_grown" "ring_grown" (defArgs s_ring_grown) (defBody s_ring_grown) (defScope s_ring_grown) .none kVring_grown dcring_grown pmring_grown anring_grown cdring_grown ctring_grown), slring_grown⟩)
    (cring_grown : PySem.W.codeIn K cdring_grown "ring_grown" = true)
    (kring_grown : PySem.W.keepIn K (.ref f_ring_grown) = true)
    (aunrolled : PySem.W.nsIn K mainGlobals "unrolled" = some (some (.ref f_unrolled)))
    (lunrolled : K.lookup f_unrolled = some ⟨ocunrolled, odunrolled, .func (PySem.W.fnOf "unrolled" "unrolled" (defArgs s_unrolled) (defBody s_unrolled) (defScope s_unrolled) .none kVunrolled dcunrolled pmunrolled anunrolled cdunrolled ctunrolled), slunrolled⟩)
    (cunrolled : PySem.W.codeIn K cdunrolled "unrolled" = true)
    (kunrolled : PySem.W.keepIn K (.ref f_unrolled) = true)
    (aRule_init : PySem.W.findIn K (.ref C_Rule) "__init__" = some (some (.ref f_Rule_init)))
    (iRule_init : PySem.W.isFn K (.ref f_Rule_init) = true)
    (lRule_init : K.lookup f_Rule_init = some ⟨ocRule_init, odRule_init, .func (PySem.W.fnOf "__init__" "Rule.__init__" (defArgs s_Rule_init) (defBody s_Rule_init) (defScope s_Rule_init) .none kVRule_init dcRule_init pmRule_init anRule_init cdRule_init ctRule_init), slRule_init⟩)
    (cRule_init : PySem.W.codeIn K cdRule_init "Rule.__init__" = true)
    (kRule_init : PySem.W.keepIn K (.ref f_Rule_init) = true)
    (alaw_cell : PySem.W.nsIn K mainGlobals "_law_cell" = some (some (.ref f_law_cell)))
    (llaw_cell : K.lookup f_law_cell = some ⟨oclaw_cell, odlaw_cell, .func (PySem.W.fnOf "_law_cell" "_law_cell" (defArgs s_law_cell) (defBody s_law_cell) (defScope s_law_cell) .none kVlaw_cell dclaw_cell pmlaw_cell anlaw_cell cdlaw_cell ctlaw_cell), sllaw_cell⟩)
    (claw_cell : PySem.W.codeIn K cdlaw_cell "_law_cell" = true)
    (klaw_cell : PySem.W.keepIn K (.ref f_law_cell) = true)
    (alaw_row : PySem.W.nsIn K mainGlobals "_law_row" = some (some (.ref f_law_row)))
    (llaw_row : K.lookup f_law_row = some ⟨oclaw_row, odlaw_row, .func (PySem.W.fnOf "_law_row" "_law_row" (defArgs s_law_row) (defBody s_law_row) (defScope s_law_row) .none kVlaw_row dclaw_row pmlaw_row anlaw_row cdlaw_row ctlaw_row), sllaw_row⟩)
    (claw_row : PySem.W.codeIn K cdlaw_row "_law_row" = true)
    (klaw_row : PySem.W.keepIn K (.ref f_law_row) = true)
    (alaw_integer : PySem.W.nsIn K mainGlobals "_law_integer" = some (some (.ref f_law_integer)))
    (llaw_integer : K.lookup f_law_integer = some ⟨oclaw_integer, odlaw_integer, .func (PySem.W.fnOf "_law_integer" "_law_integer" (defArgs s_law_integer) (defBody s_law_integer) (defScope s_law_integer) .none kVlaw_integer dclaw_integer pmlaw_integer anlaw_integer cdlaw_integer ctlaw_integer), sllaw_integer⟩)
    (claw_integer : PySem.W.codeIn K cdlaw_integer "_law_integer" = true)
    (klaw_integer : PySem.W.keepIn K (.ref f_law_integer) = true)
    (alaw_cells : PySem.W.nsIn K mainGlobals "_law_cells" = some (some (.ref f_law_cells)))
    (llaw_cells : K.lookup f_law_cells = some ⟨oclaw_cells, odlaw_cells, .func (PySem.W.fnOf "_law_cells" "_law_cells" (defArgs s_law_cells) (defBody s_law_cells) (defScope s_law_cells) .none kVlaw_cells dclaw_cells pmlaw_cells anlaw_cells cdlaw_cells ctlaw_cells), sllaw_cells⟩)
    (claw_cells : PySem.W.codeIn K cdlaw_cells "_law_cells" = true)
    (klaw_cells : PySem.W.keepIn K (.ref f_law_cells) = true)
    (alaw_numbers : PySem.W.nsIn K mainGlobals "_law_numbers" = some (some (.ref f_law_numbers)))
    (llaw_numbers : K.lookup f_law_numbers = some ⟨oclaw_numbers, odlaw_numbers, .func (PySem.W.fnOf "_law_numbers" "_law_numbers" (defArgs s_law_numbers) (defBody s_law_numbers) (defScope s_law_numbers) .none kVlaw_numbers dclaw_numbers pmlaw_numbers anlaw_numbers cdlaw_numbers ctlaw_numbers), sllaw_numbers⟩)
    (claw_numbers : PySem.W.codeIn K cdlaw_numbers "_law_numbers" = true)
    (klaw_numbers : PySem.W.keepIn K (.ref f_law_numbers) = true)
    (alaw_some : PySem.W.nsIn K mainGlobals "_law_some" = some (some (.ref f_law_some)))
    (llaw_some : K.lookup f_law_some = some ⟨oclaw_some, odlaw_some, .func (PySem.W.fnOf "_law_some" "_law_some" (defArgs s_law_some) (defBody s_law_some) (defScope s_law_some) .none kVlaw_some dclaw_some pmlaw_some anlaw_some cdlaw_some ctlaw_some), sllaw_some⟩)
    (claw_some : PySem.W.codeIn K cdlaw_some "_law_some" = true)
    (klaw_some : PySem.W.keepIn K (.ref f_law_some) = true)
    (alaw_next : PySem.W.nsIn K mainGlobals "_law_next" = some (some (.ref f_law_next)))
    (llaw_next : K.lookup f_law_next = some ⟨oclaw_next, odlaw_next, .func (PySem.W.fnOf "_law_next" "_law_next" (defArgs s_law_next) (defBody s_law_next) (defScope s_law_next) .none kVlaw_next dclaw_next pmlaw_next anlaw_next cdlaw_next ctlaw_next), sllaw_next⟩)
    (claw_next : PySem.W.codeIn K cdlaw_next "_law_next" = true)
    (klaw_next : PySem.W.keepIn K (.ref f_law_next) = true)
    (alaw : PySem.W.nsIn K mainGlobals "law" = some (some (.ref f_law)))
    (llaw : K.lookup f_law = some ⟨oclaw, odlaw, .func (PySem.W.fnOf "law" "law" (defArgs s_law) (defBody s_law) (defScope s_law) .none kVlaw dclaw pmlaw anlaw cdlaw ctlaw), sllaw⟩)
    (claw : PySem.W.codeIn K cdlaw "law" = true)
    (klaw : PySem.W.keepIn K (.ref f_law) = true)
    (zsorted : PySem.W.nsIn K mainGlobals "sorted" = some none)
    (zset : PySem.W.nsIn K mainGlobals "set" = some none)
    (zrange : PySem.W.nsIn K mainGlobals "range" = some none)
    (zdivmod : PySem.W.nsIn K mainGlobals "divmod" = some none)
    (zlen : PySem.W.nsIn K mainGlobals "len" = some none)
    (ztuple : PySem.W.nsIn K mainGlobals "tuple" = some none)
    (zint : PySem.W.nsIn K mainGlobals "int" = some none)
    (zabs : PySem.W.nsIn K mainGlobals "abs" = some none)
    (zisinstance : PySem.W.nsIn K mainGlobals "isinstance" = some none)
    (zbool : PySem.W.nsIn K mainGlobals "bool" = some none)
    (zlist : PySem.W.nsIn K mainGlobals "list" = some none)
    (zmin : PySem.W.nsIn K mainGlobals "min" = some none) :
    ∃ fd : FuncData, (∀ (s : Shared) (v : Value), BindsTo s fd ⟨[v], []⟩ [("script", v)]) ∧ ∀ base : Heap, K.In base → base.Ns mainGlobals mg → FnOk l.prog w K mg base CX0 12 fa fd ["script"] (sp_law K) := by
  have e := hfa.symm.trans (PySem.W.mg_of X G alaw)
  cases e
  have F_sums_of := fun_mk (st := s_sums_of) lsums_of csums_of ksums_of
  have b_sums_of := F_sums_of.binds (ps := ["left", "alive", "right"]) fun _ _ _ _ _ _ us hl => match us, hl with | [_, _, _], _ => rfl
  have F_totals_of := fun_mk (st := s_totals_of) ltotals_of ctotals_of ktotals_of
  have b_totals_of := F_totals_of.binds (ps := ["above", "here", "below"]) fun _ _ _ _ _ _ us hl => match us, hl with | [_, _, _], _ => rfl
  have F_next_strip := fun_mk (st := s_next_strip) lnext_strip cnext_strip knext_strip
  have b_next_strip := F_next_strip.binds (ps := ["alive", "totals", "rule"]) fun _ _ _ _ _ _ us hl => match us, hl with | [_, _, _], _ => rfl
  have F_pattern := fun_mk (st := s_pattern) lpattern cpattern kpattern
  have b_pattern := F_pattern.binds (ps := ["cells"]) fun _ _ _ _ _ _ us hl => match us, hl with | [_], _ => rfl
  have F_Ring_init := fun_mk (st := s_Ring_init) lRing_init cRing_init kRing_init
  have b_Ring_init := F_Ring_init.binds (ps := ["self", "rule", "height", "width"]) fun _ _ _ _ _ _ us hl => match us, hl with | [_, _, _, _], _ => rfl
  have F_Ring_bits := fun_mk (st := s_Ring_bits) lRing_bits cRing_bits kRing_bits
  have b_Ring_bits := F_Ring_bits.binds (ps := ["self", "cells"]) fun _ _ _ _ _ _ us hl => match us, hl with | [_, _], _ => rfl
  have F_Ring_cells := fun_mk (st := s_Ring_cells) lRing_cells cRing_cells kRing_cells
  have b_Ring_cells := F_Ring_cells.binds (ps := ["self", "bits"]) fun _ _ _ _ _ _ us hl => match us, hl with | [_, _], _ => rfl
  have F_Ring_after := fun_mk (st := s_Ring_after) lRing_after cRing_after kRing_after
  have b_Ring_after := F_Ring_after.binds (ps := ["self", "bits"]) fun _ _ _ _ _ _ us hl => match us, hl with | [_, _], _ => rfl
  have F_Ring_from_left := fun_mk (st := s_Ring_from_left) lRing_from_left cRing_from_left kRing_from_left
  have b_Ring_from_left := F_Ring_from_left.binds (ps := ["self", "bits"]) fun _ _ _ _ _ _ us hl => match us, hl with | [_, _], _ => rfl
  have F_Ring_from_right := fun_mk (st := s_Ring_from_right) lRing_from_right cRing_from_right kRing_from_right
  have b_Ring_from_right := F_Ring_from_right.binds (ps := ["self", "bits"]) fun _ _ _ _ _ _ us hl => match us, hl with | [_, _], _ => rfl
  have F_Ring_from_above := fun_mk (st := s_Ring_from_above) lRing_from_above cRing_from_above kRing_from_above
  have b_Ring_from_above := F_Ring_from_above.binds (ps := ["self", "bits"]) fun _ _ _ _ _ _ us hl => match us, hl with | [_, _], _ => rfl
  have F_Ring_from_below := fun_mk (st := s_Ring_from_below) lRing_from_below cRing_from_below kRing_from_below
  have b_Ring_from_below := F_Ring_from_below.binds (ps := ["self", "bits"]) fun _ _ _ _ _ _ us hl => match us, hl with | [_, _], _ => rfl
  have F_Ring_history := fun_mk (st := s_Ring_history) lRing_history cRing_history kRing_history
  have b_Ring_history := F_Ring_history.binds (ps := ["self", "cells", "bound"]) fun _ _ _ _ _ _ us hl => match us, hl with | [_, _, _], _ => rfl
  have F_ring_grown := fun_mk (st := s_ring_grown) lring_grown cring_grown kring_grown
  have b_ring_grown := F_ring_grown.binds (ps := ["cells", "rule", "height", "width", "generations"]) fun _ _ _ _ _ _ us hl => match us, hl with | [_, _, _, _, _], _ => rfl
  have F_unrolled := fun_mk (st := s_unrolled) lunrolled cunrolled kunrolled
  have b_unrolled := F_unrolled.binds (ps := ["cells", "height", "width", "rows", "columns"]) fun _ _ _ _ _ _ us hl => match us, hl with | [_, _, _, _, _], _ => rfl
  have F_Rule_init := fun_mk (st := s_Rule_init) lRule_init cRule_init kRule_init
  have b_Rule_init := F_Rule_init.binds (ps := ["self", "births", "survival"]) fun _ _ _ _ _ _ us hl => match us, hl with | [_, _, _], _ => rfl
  have F_law_cell := fun_mk (st := s_law_cell) llaw_cell claw_cell klaw_cell
  have b_law_cell := F_law_cell.binds (ps := ["script", "k"]) fun _ _ _ _ _ _ us hl => match us, hl with | [_, _], _ => rfl
  have F_law_row := fun_mk (st := s_law_row) llaw_row claw_row klaw_row
  have b_law_row := F_law_row.binds (ps := ["cell", "count", "bound"]) fun _ _ _ _ _ _ us hl => match us, hl with | [_, _, _], _ => rfl
  have F_law_integer := fun_mk (st := s_law_integer) llaw_integer claw_integer klaw_integer
  have b_law_integer := F_law_integer.binds (ps := ["value"]) fun _ _ _ _ _ _ us hl => match us, hl with | [_], _ => rfl
  have F_law_cells := fun_mk (st := s_law_cells) llaw_cells claw_cells klaw_cells
  have b_law_cells := F_law_cells.binds (ps := ["value"]) fun _ _ _ _ _ _ us hl => match us, hl with | [_], _ => rfl
  have F_law_numbers := fun_mk (st := s_law_numbers) llaw_numbers claw_numbers klaw_numbers
  have b_law_numbers := F_law_numbers.binds (ps := ["cell"]) fun _ _ _ _ _ _ us hl => match us, hl with | [_], _ => rfl
  have F_law_some := fun_mk (st := s_law_some) llaw_some claw_some klaw_some
  have b_law_some := F_law_some.binds (ps := ["cell", "count", "height", "width"]) fun _ _ _ _ _ _ us hl => match us, hl with | [_, _, _, _], _ => rfl
  have F_law_next := fun_mk (st := s_law_next) llaw_next claw_next klaw_next
  have b_law_next := F_law_next.binds (ps := ["cells", "births", "survival"]) fun _ _ _ _ _ _ us hl => match us, hl with | [_, _, _], _ => rfl
  have F_law := fun_mk (st := s_law) llaw claw klaw
  have b_law := F_law.binds (ps := ["script"]) fun _ _ _ _ _ _ us hl => match us, hl with | [_], _ => rfl
  let T : Txt K mg := {
    C_Ring := C_Ring,
    g_Ring := PySem.W.mg_of X G aCRing,
    cl_Ring := ⟨pgRing, hdRing, poRing, saRing⟩,
    na_Ring__rule := nRing_rule,
    na_Ring__height := nRing_height,
    na_Ring__width := nRing_width,
    na_Ring__full := nRing_full,
    na_Ring__first_column := nRing_first_column,
    na_Ring__last_column := nRing_last_column,
    C_Rule := C_Rule,
    g_Rule := PySem.W.mg_of X G aCRule,
    cl_Rule := ⟨pgRule, hdRule, poRule, saRule⟩,
    na_Rule_births := nRulebirths,
    na_Rule_survival := nRulesurvival,
    f_sums_of := f_sums_of,
    d_sums_of := _,
    F_sums_of := F_sums_of,
    b_sums_of := b_sums_of,
    g_sums_of := PySem.W.mg_of X G asums_of,
    f_totals_of := f_totals_of,
    d_totals_of := _,
    F_totals_of := F_totals_of,
    b_totals_of := b_totals_of,
    g_totals_of := PySem.W.mg_of X G atotals_of,
    f_next_strip := f_next_strip,
    d_next_strip := _,
    F_next_strip := F_next_strip,
    b_next_strip := b_next_strip,
    g_next_strip := PySem.W.mg_of X G anext_strip,
    f_pattern := f_pattern,
    d_pattern := _,
    F_pattern := F_pattern,
    b_pattern := b_pattern,
    g_pattern := PySem.W.mg_of X G apattern,
    f_Ring_init := f_Ring_init,
    d_Ring_init := _,
    F_Ring_init := F_Ring_init,
    b_Ring_init := b_Ring_init,
    M_Ring := ⟨mkRing, aRing_init, iRing_init, kcRing⟩,
    f_Ring_bits := f_Ring_bits,
    d_Ring_bits := _,
    F_Ring_bits := F_Ring_bits,
    b_Ring_bits := b_Ring_bits,
    m_Ring_bits := ⟨aRing_bits, iRing_bits, kRing_bits⟩,
    f_Ring_cells := f_Ring_cells,
    d_Ring_cells := _,
    F_Ring_cells := F_Ring_cells,
    b_Ring_cells := b_Ring_cells,
    m_Ring_cells := ⟨aRing_cells, iRing_cells, kRing_cells⟩,
    f_Ring_after := f_Ring_after,
    d_Ring_after := _,
    F_Ring_after := F_Ring_after,
    b_Ring_after := b_Ring_after,
    m_Ring_after := ⟨aRing_after, iRing_after, kRing_after⟩,
    f_Ring_from_left := f_Ring_from_left,
    d_Ring_from_left := _,
    F_Ring_from_left := F_Ring_from_left,
    b_Ring_from_left := b_Ring_from_left,
    m_Ring_from_left := ⟨aRing_from_left, iRing_from_left, kRing_from_left⟩,
    f_Ring_from_right := f_Ring_from_right,
    d_Ring_from_right := _,
    F_Ring_from_right := F_Ring_from_right,
    b_Ring_from_right := b_Ring_from_right,
    m_Ring_from_right := ⟨aRing_from_right, iRing_from_right, kRing_from_right⟩,
    f_Ring_from_above := f_Ring_from_above,
    d_Ring_from_above := _,
    F_Ring_from_above := F_Ring_from_above,
    b_Ring_from_above := b_Ring_from_above,
    m_Ring_from_above := ⟨aRing_from_above, iRing_from_above, kRing_from_above⟩,
    f_Ring_from_below := f_Ring_from_below,
    d_Ring_from_below := _,
    F_Ring_from_below := F_Ring_from_below,
    b_Ring_from_below := b_Ring_from_below,
    m_Ring_from_below := ⟨aRing_from_below, iRing_from_below, kRing_from_below⟩,
    f_Ring_history := f_Ring_history,
    d_Ring_history := _,
    F_Ring_history := F_Ring_history,
    b_Ring_history := b_Ring_history,
    m_Ring_history := ⟨aRing_history, iRing_history, kRing_history⟩,
    f_ring_grown := f_ring_grown,
    d_ring_grown := _,
    F_ring_grown := F_ring_grown,
    b_ring_grown := b_ring_grown,
    g_ring_grown := PySem.W.mg_of X G aring_grown,
    f_unrolled := f_unrolled,
    d_unrolled := _,
    F_unrolled := F_unrolled,
    b_unrolled := b_unrolled,
    g_unrolled := PySem.W.mg_of X G aunrolled,
    f_Rule_init := f_Rule_init,
    d_Rule_init := _,
    F_Rule_init := F_Rule_init,
    b_Rule_init := b_Rule_init,
    M_Rule := ⟨mkRule, aRule_init, iRule_init, kcRule⟩,
    f_law_cell := f_law_cell,
    d_law_cell := _,
    F_law_cell := F_law_cell,
    b_law_cell := b_law_cell,
    g_law_cell := PySem.W.mg_of X G alaw_cell,
    f_law_row := f_law_row,
    d_law_row := _,
    F_law_row := F_law_row,
    b_law_row := b_law_row,
    g_law_row := PySem.W.mg_of X G alaw_row,
    f_law_integer := f_law_integer,
    d_law_integer := _,
    F_law_integer := F_law_integer,
    b_law_integer := b_law_integer,
    g_law_integer := PySem.W.mg_of X G alaw_integer,
    f_law_cells := f_law_cells,
    d_law_cells := _,
    F_law_cells := F_law_cells,
    b_law_cells := b_law_cells,
    g_law_cells := PySem.W.mg_of X G alaw_cells,
    f_law_numbers := f_law_numbers,
    d_law_numbers := _,
    F_law_numbers := F_law_numbers,
    b_law_numbers := b_law_numbers,
    g_law_numbers := PySem.W.mg_of X G alaw_numbers,
    f_law_some := f_law_some,
    d_law_some := _,
    F_law_some := F_law_some,
    b_law_some := b_law_some,
    g_law_some := PySem.W.mg_of X G alaw_some,
    f_law_next := f_law_next,
    d_law_next := _,
    F_law_next := F_law_next,
    b_law_next := b_law_next,
    g_law_next := PySem.W.mg_of X G alaw_next,
    f_law := fa,
    d_law := _,
    F_law := F_law,
    b_law := b_law,
    g_law := PySem.W.mg_of X G alaw,
    z_sorted := PySem.W.mg_none_of X G zsorted,
    z_set := PySem.W.mg_none_of X G zset,
    z_range := PySem.W.mg_none_of X G zrange,
    z_divmod := PySem.W.mg_none_of X G zdivmod,
    z_len := PySem.W.mg_none_of X G zlen,
    z_tuple := PySem.W.mg_none_of X G ztuple,
    z_int := PySem.W.mg_none_of X G zint,
    z_abs := PySem.W.mg_none_of X G zabs,
    z_isinstance := PySem.W.mg_none_of X G zisinstance,
    z_bool := PySem.W.mg_none_of X G zbool,
    z_list := PySem.W.mg_none_of X G zlist,
    z_min := PySem.W.mg_none_of X G zmin }
  exact ⟨_, fun s v => .of_eq rfl, fun base _ _ => ok_law T⟩
end My
open PySem PySem.W PyProof.Rows
set_option maxHeartbeats 0 in
theorem PySem.Challenge.cw_longlife_k28_whole_rings_unrolled_holds : PySem.Challenge.rw_longlife_k28_whole_rings_unrolled.Holds := by
  w_on; o_law; k_head; (case hw => w_witness2)
  k_fill
  refine L2.walk_of (l := PySem.Challenge.rw_longlife_k28_whole_rings_unrolled) (n := 63) (k := 12) (x := "script") (CX := fun _ => L2.CX0) (sp := fun w => My.sp_law _) rfl (by decide) rfl ⟨rfl, by decide, by decide⟩ (fun w h Y => PySem.W.kIn_of Y) ?F (fun _ _ a ns hl _ hS => ⟨a, ns, rfl, hS, hl, fun _ => rfl⟩) (fun _ _ _ _ _ h => h)
  case F =>
    intro w mg fa h KX G hmg
    refine' My.all_mk KX G hmg ?aCRing ?pgRing ?hdRing ?poRing ?saRing ?mkRing ?kcRing ?nRing_rule ?nRing_height ?nRing_width ?nRing_full ?nRing_first_column ?nRing_last_column ?aCRule ?pgRule ?hdRule ?poRule ?saRule ?mkRule ?kcRule ?nRulebirths ?nRulesurvival ?asums_of ?lsums_of ?csums_of ?ksums_of ?atotals_of ?ltotals_of ?ctotals_of ?ktotals_of ?anext_strip ?lnext_strip ?cnext_strip ?knext_strip ?apattern ?lpattern ?cpattern ?kpattern ?aRing_init ?iRing_init ?lRing_init ?cRing_init ?kRing_init ?aRing_bits ?iRing_bits ?lRing_bits ?cRing_bits ?kRing_bits ?aRing_cells ?iRing_cells ?lRing_cells ?cRing_cells ?kRing_cells ?aRing_after ?iRing_after ?lRing_after ?cRing_after ?kRing_after ?aRing_from_left ?iRing_from_left ?lRing_from_left ?cRing_from_left ?kRing_from_left ?aRing_from_right ?iRing_from_right ?lRing_from_right ?cRing_from_right ?kRing_from_right ?aRing_from_above ?iRing_from_above ?lRing_from_above ?cRing_from_above ?kRing_from_above ?aRing_from_below ?iRing_from_below ?lRing_from_below ?cRing_from_below ?kRing_from_below ?aRing_history ?iRing_history ?lRing_history ?cRing_history ?kRing_history ?aring_grown ?lring_grown ?cring_grown ?kring_grown ?aunrolled ?lunrolled ?cunrolled ?kunrolled ?aRule_init ?iRule_init ?lRule_init ?cRule_init ?kRule_init ?alaw_cell ?llaw_cell ?claw_cell ?klaw_cell ?alaw_row ?llaw_row ?claw_row ?klaw_row ?alaw_integer ?llaw_integer ?claw_integer ?klaw_integer ?alaw_cells ?llaw_cells ?claw_cells ?klaw_cells ?alaw_numbers ?llaw_numbers ?claw_numbers ?klaw_numbers ?alaw_some ?llaw_some ?claw_some ?klaw_some ?alaw_next ?llaw_next ?claw_next ?klaw_next ?alaw ?llaw ?claw ?klaw ?zsorted ?zset ?zrange ?zdivmod ?zlen ?ztuple ?zint ?zabs ?zisinstance ?zbool ?zlist ?zmin
    (case aCRing => k_is)
    (case pgRing => k_is)
    (case hdRing => k_is)
    (case poRing => k_is)
    (case saRing => k_is)
    (case mkRing => k_is)
    (case kcRing => k_is)
    (case nRing_rule => k_is)
    (case nRing_height => k_is)
    (case nRing_width => k_is)
    (case nRing_full => k_is)
    (case nRing_first_column => k_is)
    (case nRing_last_column => k_is)
    (case aCRule => k_is)
    (case pgRule => k_is)
    (case hdRule => k_is)
    (case poRule => k_is)
    (case saRule => k_is)
    (case mkRule => k_is)
    (case kcRule => k_is)
    (case nRulebirths => k_is)
    (case nRulesurvival => k_is)
    (case asums_of => k_is)
    (case lsums_of => k_is)
    (case csums_of => k_is)
    (case ksums_of => k_is)
    (case atotals_of => k_is)
    (case ltotals_of => k_is)
    (case ctotals_of => k_is)
    (case ktotals_of => k_is)
    (case anext_strip => k_is)
    (case lnext_strip => k_is)
    (case cnext_strip => k_is)
    (case knext_strip => k_is)
    (case apattern => k_is)
    (case lpattern => k_is)
    (case cpattern => k_is)
    (case kpattern => k_is)
    (case aRing_init => k_is)
    (case iRing_init => k_is)
    (case lRing_init => k_is)
    (case cRing_init => k_is)
    (case kRing_init => k_is)
    (case aRing_bits => k_is)
    (case iRing_bits => k_is)
    (case lRing_bits => k_is)
    (case cRing_bits => k_is)
    (case kRing_bits => k_is)
    (case aRing_cells => k_is)
    (case iRing_cells => k_is)
    (case lRing_cells => k_is)
    (case cRing_cells => k_is)
    (case kRing_cells => k_is)
    (case aRing_after => k_is)
    (case iRing_after => k_is)
    (case lRing_after => k_is)
    (case cRing_after => k_is)
    (case kRing_after => k_is)
    (case aRing_from_left => k_is)
    (case iRing_from_left => k_is)
    (case lRing_from_left => k_is)
    (case cRing_from_left => k_is)
    (case kRing_from_left => k_is)
    (case aRing_from_right => k_is)
    (case iRing_from_right => k_is)
    (case lRing_from_right => k_is)
    (case cRing_from_right => k_is)
    (case kRing_from_right => k_is)
    (case aRing_from_above => k_is)
    (case iRing_from_above => k_is)
    (case lRing_from_above => k_is)
    (case cRing_from_above => k_is)
    (case kRing_from_above => k_is)
    (case aRing_from_below => k_is)
    (case iRing_from_below => k_is)
    (case lRing_from_below => k_is)
    (case cRing_from_below => k_is)
    (case kRing_from_below => k_is)
    (case aRing_history => k_is)
    (case iRing_history => k_is)
    (case lRing_history => k_is)
    (case cRing_history => k_is)
    (case kRing_history => k_is)
    (case aring_grown => k_is)
    (case lring_grown => k_is)
    (case cring_grown => k_is)
    (case kring_grown => k_is)
    (case aunrolled => k_is)
    (case lunrolled => k_is)
    (case cunrolled => k_is)
    (case kunrolled => k_is)
    (case aRule_init => k_is)
    (case iRule_init => k_is)
    (case lRule_init => k_is)
    (case cRule_init => k_is)
    (case kRule_init => k_is)
    (case alaw_cell => k_is)
    (case llaw_cell => k_is)
    (case claw_cell => k_is)
    (case klaw_cell => k_is)
    (case alaw_row => k_is)
    (case llaw_row => k_is)
    (case claw_row => k_is)
    (case klaw_row => k_is)
    (case alaw_integer => k_is)
    (case llaw_integer => k_is)
    (case claw_integer => k_is)
    (case klaw_integer => k_is)
    (case alaw_cells => k_is)
    (case llaw_cells => k_is)
    (case claw_cells => k_is)
    (case klaw_cells => k_is)
    (case alaw_numbers => k_is)
    (case llaw_numbers => k_is)
    (case claw_numbers => k_is)
    (case klaw_numbers => k_is)
    (case alaw_some => k_is)
    (case llaw_some => k_is)
    (case claw_some => k_is)
    (case klaw_some => k_is)
    (case alaw_next => k_is)
    (case llaw_next => k_is)
    (case claw_next => k_is)
    (case klaw_next => k_is)
    (case alaw => k_is)
    (case llaw => k_is)
    (case claw => k_is)
    (case klaw => k_is)
    (case zsorted => k_is)
    (case zset => k_is)
    (case zrange => k_is)
    (case zdivmod => k_is)
    (case zlen => k_is)
    (case ztuple => k_is)
    (case zint => k_is)
    (case zabs => k_is)
    (case zisinstance => k_is)
    (case zbool => k_is)
    (case zlist => k_is)
    (case zmin => k_is)
