import PyProof.Rows.All
import Wide.All
import OpenK.AllK
import Wide.FinOn
import HandS.ForMost
import HandS.Strs
import HandS.SetFor
import HandS.OwnEq
import HandS.SlotsOwn
import HandS.IsInst
import HandS.Wide
import HandS.Style
import HandS.Steps
import HandS.Walk
import HandS.Exc
import HandS.TryOnly
import HandS.ExcOwn
import HandS.WordsExc
import HandS.FStr
import HandS.RaiseMore
import HandS.ExcIs
import HandS.TupSets
import HandS.SortRule
import PyProof.Rows.AssignMoreSeq
import HandS.NoneIn
import HandS.Deep
import PyProof.Rows.RegStrFacts
import HandS.DictTup
import HandS.Conv
import HandS.WideBits
import KE.OsArith
import PySem.Challenge.RW_longlife_k04_generations_of_patterns
set_option Elab.async false
set_option linter.all false
set_option maxRecDepth 100000
set_option maxHeartbeats 4000000
namespace Vx
open PySem PySem.Spec PyProof.Rows L2
/-! ### heaps that grow -/
theorem newS {H : Hp} {p : Addr} {o : HO} (n : H p = none) : Same H (upd H p o) := fun b x e => by
  rw [upd_ne (ne_of_none e n)]
  exact e
theorem mutS {H H' : Hp} {p : Addr} {o : HO} (e : Same H H') (n : H p = none) : Same H (upd H' p o) := fun b x hb => by
  rw [upd_ne (ne_of_none hb n)]
  exact e b x hb
theorem getS {H H' : Hp} {a : Addr} {o : HO} (e : Same H H') (h : H a = some o) : H' a = some o := e a o h
theorem tupS {K : PySem.W.Frag} {H H' : Hp} {a : Addr} {xs : List V} (e : Same H H') (h : SqT K H a xs) : SqT K H' a xs := by
  rcases h with (h | ⟨o, h⟩) | h
  · exact .inl (.inl (e _ _ h))
  · exact .inl (.inr ⟨o, e _ _ h⟩)
  · exact .inr h
theorem lst_of {K : PySem.W.Frag} {H : Hp} {a : Addr} {xs : List V} (h : H a = some (.lst xs)) : SqL K H a xs := .inl (.inl h)
theorem tup_of {K : PySem.W.Frag} {H : Hp} {a : Addr} {xs : List V} (h : H a = some (.tup xs)) : SqT K H a xs := .inl (.inl h)
theorem neS {H H' : Hp} {a p : Addr} {o : HO} (h : H a = some o) (e : Same H H') (n : H' p = none) : a ≠ p := ne_of_none (e a o h) n
theorem backS {H H' : Hp} {p : Addr} (e : Same H H') (n : H' p = none) : H p = none := Same.free e n
theorem gen_e {H H1 : Hp} {p : Addr} {o : HO} (q : upd H p o = H1) (n : H p = none) : Same H H1 ∧ H1 p = some o := by
  subst q
  exact ⟨newS n, upd_same⟩
/-! ### calls of built-ins, one way each -/
section
variable {X : Cx}
theorem call_intI : CallR X (.type "int") (fun xs H Q => ∃ i, xs = [.int i] ∧ Q (.int i) H) := fun pins s σ H xs us Q I r h => call_int1 pins s σ H xs us Q I r (.inl h)
theorem call_tupL : CallR X (.type "tuple") (fun xs H Q => ∃ p ys, xs = [.ref p] ∧ SqL X.K H p ys ∧ ∀ l, H l = none → Q (.ref l) (upd H l (.tup ys))) := fun pins s σ H xs us Q I r h => by
  obtain ⟨p, ys, e, hs, q⟩ := h
  exact call_tuple_of pins s σ H xs us Q I r ⟨p, ys, e, .inl ⟨hs, q⟩⟩
theorem call_lenL : CallR X (.builtin "len") (fun xs H Q => ∃ p ys, xs = [.ref p] ∧ SqL X.K H p ys ∧ Q (.int ys.length) H) := fun pins s σ H xs us Q I r h => by
  obtain ⟨p, ys, e, hs, q⟩ := h
  exact call_len_seq pins s σ H xs us Q I r ⟨p, ys, e, .inl hs, q⟩
theorem call_lenU : CallR X (.builtin "len") (fun xs H Q => ∃ p ys, xs = [.ref p] ∧ SqT X.K H p ys ∧ Q (.int ys.length) H) := fun pins s σ H xs us Q I r h => by
  obtain ⟨p, ys, e, hs, q⟩ := h
  exact call_len_seq pins s σ H xs us Q I r ⟨p, ys, e, .inr hs, q⟩
theorem call_listL : CallR X (.type "list") (fun xs H Q => ∃ p ys, xs = [.ref p] ∧ SqL X.K H p ys ∧ ∀ l, H l = none → Q (.ref l) (upd H l (.lst ys))) := fun pins s σ H xs us Q I r h => by
  obtain ⟨p, ys, e, hs, q⟩ := h
  exact call_list_of pins s σ H xs us Q I r ⟨p, ys, e, .inl hs, q⟩
/-- a class of the text is no built-in type -/
theorem op_isCT : OpR X (compareOp .Is) (fun x y H Q => ∃ a n, x = V.ref a ∧ y = V.ty n ∧ Q (.bl false) H) := by
  intro pins s σ H x y v u Q I rx ry h
  obtain ⟨a, n, rfl, rfl, q⟩ := h
  cases (show v = Value.ref a from rx)
  cases (show u = Value.type n from ry)
  exact wpAny_is_other rfl (fun z => by cases z) ⟨.bl false, H, I, rfl, q⟩
theorem looks_ty {M : Model} {s : Shared} {u : Value} {T : String} (h : s.TypeIs u T) : PySem.W.Looks M s.heap (typeOf u) (.type T) := by
  unfold Shared.TypeIs at h
  split at h
  · obtain ⟨o, ho, hc⟩ := h
    exact fun A Q E s' k q => wpAny_typeOf_ref (k _ _ ho) (by rw [hc]; exact q)
  · exact PySem.W.Looks.of_pure h
/-- x == y by the text's own __eq__; y an instance of that class, or of a built-in type -/
def rEqOwn (K : PySem.W.Frag) (C : Addr) (sp : Sp) (E : XK) : R2 := fun x y H Q => ∃ a dx fs, x = .ref a ∧ H a = some (.ins C dx fs) ∧
  ((∃ b dy gs, y = .ref b ∧ H b = some (.ins C dy gs)) ∨ ∃ T, TyB K H y T ∧ PySem.W.notFirst K C (.type T) = true) ∧ sp [x, y] H Q E
theorem op_eqOwn {CX : CXT} {C g : Addr} {n : Nat} {sp : Sp} {E : XK} (hs : PySem.W.findIn X.K (.ref C) "__eq__" = some (some (.ref g))) (hf : PySem.W.isFn X.K (.ref g) = true)
    (F : FnR X.prog X.w X.K X.mg X.base CX n g sp) (hr : Room n X.A) (hx : Passes CX X E) : OpR X (compareOp .Eq) (rEqOwn X.K C sp E) := by
  intro pins s σ H x y v u Q I rx ry h
  obtain ⟨a, dx, fs, rfl, ha, hy, q⟩ := h
  cases (show v = Value.ref a from rx)
  obtain ⟨mA, O, _⟩ := ins_get I.hok ha
  obtain ⟨od, J, _⟩ := O.look
  obtain ⟨m, hF⟩ := I.fr
  show wpAny (model X.prog X.w) X.A (richCompare .Eq (.ref a) u) (EP X pins σ Q) X.xe s
  have fin : wpAny (model X.prog X.w) X.A (call (.ref g) [.ref a, u]) (PySem.W.CmpBack (EP X pins σ Q)) X.xe s := by
    refine wpAny_mono (wpAny_call (run_fnR (us := [.ref a, u]) (vs := [.ref a, y]) F hr hx I (.cons rfl (.cons ry .nil)) q)) (fun w s' z => ?_) fun _ _ x => x
    obtain ⟨z', H', I', rz, qz⟩ := z
    exact SlX.cmpback rz ⟨z', H', I', rz, qz⟩
  rcases hy with ⟨b, dy, gs, rfl, hb⟩ | ⟨T, ty, nf⟩
  · cases (show u = Value.ref b from ry)
    obtain ⟨mB, O2, _⟩ := ins_get I.hok hb
    obtain ⟨od2, J2, _⟩ := O2.look
    exact PySem.W.cmp_K (op := .Eq) (tb := .ref C) hr.units0 hF I.ok.mod.kin J J2.type (by simp [PySem.W.notFirst]) hs hf fin
  · exact PySem.W.cmp_K (op := .Eq) (tb := .type T) hr.units0 hF I.ok.mod.kin J (looks_ty (ty.is I ry)) nf hs hf fin
theorem nf_str {K : PySem.W.Frag} {C : Addr} : PySem.W.notFirst K C (.type "str") = true := by rfl
theorem nf_tup {K : PySem.W.Frag} {C : Addr} : PySem.W.notFirst K C (.type "tuple") = true := by rfl
end
end Vx
namespace Vx
open PySem PySem.Spec PyProof.Rows L2
/-! ### set(xs) of a list of ints -/
abbrev bareSet (w : World) : Obj := { cls := .type "set", dict := none, data := .set #[] 0 (.fresh 0 0 (!w.params.followText "set-order")) }
section
variable {P : Program} {w : World} {A : Around} {E : Value → Shared → Prop} {s : Shared}
theorem set_of_list {l : Addr} {its : Array Value} (ns : List Int) {Q : Value → Shared → Prop} (calm : A.handled = none) (hl : s.heap.IsList l its) (hi : IntsAre its.toList ns) (room : ns.length + 1 < scanBound)
    (k : ∀ (g : Heap) (t c : Nat), SetR w g s.heap.objs.size (fun j => decide (j ∈ ns)) c → c ≤ ns.length → (∀ b o, s.heap.get? b = some o → g.get? b = some o) → Q (.ref s.heap.objs.size) { s with heap := g, toks := t }) :
    wpAny (model P w) A (call (.type "set") [.ref l]) Q E s := by
  have len : its.size = ns.length := by
    have z := IntsAre.length hi
    rwa [Array.length_toList] at z
  obtain ⟨c0, tl, hmro⟩ := F.called_set.mro
  have hmade := F.called_set.made
  have hsub := F.called_set.sub
  refine wpAny_call (codeAny_of_tree ?_)
  show wpAny _ _ (callAny (.type "set") _) _ _ _
  refine wpAny_pure ⟨Code.quiet_builtin _ (by decide +kernel), codeAny_builtin F.entry_type_call ?_⟩
  rw [Around.under_plain (weight_type_call_type "set" [.ref l] []) rfl]
  have n1 := F.called_set.notType
  have n2 := F.called_set.canCreate
  have n3 := F.typeCall_set_1 (.ref l)
  repeat (any_goals (first | assumption | wp_step))
  refine codeAny_mono (code_set_led1 (.ref l) (E := E) (Q₁ := fun ob s1 => ob = .ref s.heap.objs.size ∧ s1 = { s with heap := s.heap.push (bareSet w) }) ⟨rfl, rfl⟩) fun r s1 hr => ?_
  rcases r with e | fl
  · exact hr
  cases fl with
  | ret ob =>
    obtain ⟨rfl, rfl⟩ := hr
    have at0 : (s.heap.push (bareSet w)).get? s.heap.objs.size = some (bareSet w) := Heap.get?_push_size _ rfl
    have ty0 : Shared.TypeIs { s with heap := s.heap.push (bareSet w) } (.ref s.heap.objs.size) "set" := ⟨_, at0, rfl⟩
    have i1 := F.called_set.init.lookup
    have i2 := F.called_set.init.bind (.ref s.heap.objs.size)
    repeat (any_goals (first | assumption | wp_step))
    refine codeAny_mono (codeAny_call_builtin (R := wants (fun v s2 => v = .none ∧ ∃ g t c, s2 = { s with heap := g, toks := t } ∧ SetR w g s.heap.objs.size (fun j => decide (j ∈ ns)) c ∧ c ≤ ns.length ∧
        (∀ b o, s.heap.get? b = some o → g.get? b = some o)) E) F.called_set.init.plain F.entry_set_init (check_set_init_1 ty0 ?_)) fun r2 s2 hr2 => ?_
    · obtain ⟨⟨oc, od, ob, osl⟩, hol, hcl, nl, hdl⟩ := hl
      simp only at hcl hdl
      subst hcl hdl
      have at1 : (s.heap.push (bareSet w)).get? l = some { cls := .type "list", dict := od, data := .seq its nl, slots := osl } := Heap.get?_push_of_some _ hol
      have q1 := F.sub_list_set
      have q2 := F.sub_list_frozenset
      have q3 : (Value.type "list" == Value.type "dict") = false := by decide
      have isl : (s.heap.push (bareSet w)).IsList l its := ⟨_, at1, rfl, nl, rfl⟩
      unfold Builtin.«set.__init__» noKeywords Builtin.Frozenset.updateFrom
      generalize hPI : pyIter = PI
      wp_walk
      subst hPI
      refine wpAny_pyIter_list isl ?_
      refine wpAny_bind (wpAny_runValue ?_)
      have lS : l < s.heap.objs.size := Heap.lt_size hol
      have calm3 : A.in1.in1.in1.handled = none := by simp [calm]
      have neI : l ≠ (s.heap.push (bareSet w)).objs.size := by
        rw [Heap.size_push]
        exact Nat.ne_of_lt (Nat.lt_succ_of_lt lS)
      have noS : s.heap.objs.size ∉ [(s.heap.push (bareSet w)).objs.size, l] := by
        rw [Heap.size_push]
        simp only [List.mem_cons, List.mem_singleton, List.not_mem_nil, or_false, not_or]
        exact ⟨Nat.ne_of_lt (Nat.lt_succ_self _), Nat.ne_of_gt lS⟩
      have item : ∀ (i : Nat) (v : Value), its[i]? = some v → ∃ m t, ns[i]? = some m ∧ v = .int m t := fun i v hv => by
        have li : i < ns.length := by rw [← len]; exact (Array.getElem?_eq_some_iff.mp hv).1
        obtain ⟨t, e⟩ := PyProof.Rows.IntsAre.int_at hi i v (by rw [Array.getElem?_toList]; exact hv)
        refine ⟨ns[i], t, List.getElem?_eq_getElem li, ?_⟩
        rw [e, List.getD_eq_getElem?_getD, List.getElem?_eq_getElem li]
        rfl
      refine set_update_ints ((Walks.list calm3 _ l neI its).toS) s.heap.objs.size noS ns len room item (its.size - 0) 0 _ (by omega) (Nat.zero_le _) ⟨⟨_, Heap.get?_push_size _ rfl, rfl, rfl⟩, (isl.push _)⟩ ?s0 ?fin
      case s0 => exact ⟨0, Nat.le_refl 0, setR_new_at (Heap.get?_push_of_some _ at0)⟩
      case fin =>
        intro s3 c3 mv hc3 hS3
        obtain ⟨g3, ge, dr, t3, os3⟩ := s3
        cases (show ge = s.gens from mv.gens)
        cases (show dr = s.drawn from mv.drawn)
        cases (show os3 = s.os from mv.os)
        show wpAny _ _ _ _ _ _
        refine wpAny_pure ?_
        show wpAny _ _ (ret Value.none) _ _ _
        rw [len] at hc3
        refine wpAny_pure ⟨rfl, g3, t3, c3, rfl, hS3, hc3, fun b o e => ?_⟩
        have b0 : b < s.heap.objs.size := Heap.lt_size e
        have b2 : b ≠ (s.heap.push (bareSet w)).objs.size := by
          rw [Heap.size_push]
          exact Nat.ne_of_lt (Nat.lt_succ_of_lt b0)
        exact mv.heap b o (by simp only [List.mem_cons, List.mem_singleton, List.not_mem_nil, or_false, not_or]; exact ⟨Nat.ne_of_lt b0, b2⟩) (Heap.get?_push_of_some _ (Heap.get?_push_of_some _ e))
    · rcases r2 with e | fl2
      · exact hr2
      cases fl2 with
      | ret v =>
        obtain ⟨rfl, g, t, c, rfl, hS, hc, hk⟩ := hr2
        repeat (any_goals (first | assumption | wp_step))
        exact k _ _ _ hS hc hk
      | _ => exact hr2.elim
  | _ => exact hr.elim
end
section
variable {X : Cx}
theorem cr_setL (hc : X.calm = true) : CallR X (.type "set") (fun vs H Q => ∃ (l : Addr) (ns : List Int), vs = [V.ref l] ∧ SqL X.K H l (ns.map V.int) ∧ ns.length + 1 < scanBound ∧
    ∀ p c, H p = none → c ≤ ns.length → Q (.ref p) (upd H p (SetO X.w p (fun j => decide (j ∈ ns)) c))) := by
  intro pins s σ H xs us Q I r h
  obtain ⟨l, ns, rfl, hl, room, q⟩ := h
  rw [Vals.ref1 r]
  obtain ⟨its, rv, pl, hz⟩ := I.list hl
  refine set_of_list ns (I.ok.hd hc) pl.isList (by simpa using ints_of_vals rv) room fun g t c R hc' k => ?_
  have hn : H s.heap.objs.size = none := I.hok.fresh (Nat.le_refl _)
  exact ⟨.ref _, _, I.laid (a := s.heap.objs.size) (t' := t) k (Nat.le_refl _) (setO_new R), rfl, q _ c hn hc'⟩
end
end Vx
namespace Vx
open PySem PySem.Spec PyProof.Rows L2
/-! ### ascending lists -/
theorem asc_eq : ∀ {l m : List Int}, l.Pairwise (· < ·) → m.Pairwise (· < ·) → (∀ k, k ∈ l ↔ k ∈ m) → l = m
  | [], [], _, _, _ => rfl
  | [], y :: m, _, _, h => absurd ((h y).mpr List.mem_cons_self) (by simp)
  | x :: l, [], _, _, h => absurd ((h x).mp List.mem_cons_self) (by simp)
  | x :: l, y :: m, hl, hm, h => by
    obtain ⟨h1, h2⟩ := List.pairwise_cons.mp hl
    obtain ⟨h3, h4⟩ := List.pairwise_cons.mp hm
    have e : x = y := by
      rcases List.mem_cons.mp ((h x).mp List.mem_cons_self) with e | e
      · exact e
      · rcases List.mem_cons.mp ((h y).mpr List.mem_cons_self) with e2 | e2
        · exact e2.symm
        · have a := h3 _ e
          have b := h1 _ e2
          omega
    subst e
    rw [asc_eq h2 h4 fun k => ?_]
    have q := h k
    constructor
    · intro hk
      rcases List.mem_cons.mp (q.mp (List.mem_cons_of_mem _ hk)) with e | e
      · exact absurd (h1 _ hk) (by omega)
      · exact e
    · intro hk
      rcases List.mem_cons.mp (q.mpr (List.mem_cons_of_mem _ hk)) with e | e
      · exact absurd (h3 _ hk) (by omega)
      · exact e
/-! ### data -/
theorem eqvAll_ints : ∀ (l m : List Int), PyData.eqvAll (l.map PyData.int) (m.map PyData.int) = decide (l = m)
  | [], [] => by simp [PyData.eqvAll]
  | [], y :: m => by simp [PyData.eqvAll]
  | x :: l, [] => by simp [PyData.eqvAll]
  | x :: l, y :: m => by
    show (PyData.eqv (.int x) (.int y) && PyData.eqvAll (l.map PyData.int) (m.map PyData.int)) = _
    rw [eqvAll_ints l m]
    show ((x == y) && decide (l = m)) = _
    by_cases e : x = y <;> by_cases e2 : l = m <;> simp [e, e2]
theorem eqv_tupI (l m : List Int) : PyData.eqv (.tuple (l.map PyData.int)) (.tuple (m.map PyData.int)) = decide (l = m) := eqvAll_ints l m
theorem eqv_lstI (l m : List Int) : PyData.eqv (.list (l.map PyData.int)) (.list (m.map PyData.int)) = decide (l = m) := eqvAll_ints l m
theorem dpAll_ints {K : PySem.W.Frag} {H : Hp} : ∀ l : List Int, DpAll K H (l.map V.int) (l.map PyData.int)
  | [] => .nil
  | x :: l => .cons (.int x) (dpAll_ints l)
theorem dp_tupI {K : PySem.W.Frag} {H : Hp} {a : Addr} {l : List Int} (h : SqT K H a (l.map V.int)) : Dp K H (.ref a) (.tuple (l.map PyData.int)) := .tup h (dpAll_ints l)
theorem dp_lstI {K : PySem.W.Frag} {H : Hp} {a : Addr} {l : List Int} (h : SqL K H a (l.map V.int)) : Dp K H (.ref a) (.list (l.map PyData.int)) := .lst h (dpAll_ints l)
theorem inV_ints (x : Int) : ∀ l : List Int, inV (.int x) (l.map V.int) = decide (x ∈ l)
  | [] => by simp [inV]
  | y :: l => by
    have ih := inV_ints x l
    unfold inV at ih ⊢
    rw [List.map_cons, List.any_cons, ih]
    show ((y == x) || decide (x ∈ l)) = _
    by_cases e : y = x
    · simp [e]
    · have e' : ¬ x = y := fun z => e z.symm
      simp [e, e']
theorem flat_ints (l : List Int) : (l.map V.int).all flatV = true := by
  rw [List.all_map]
  exact List.all_eq_true.mpr fun _ _ => rfl
end Vx
namespace Vx
open PySem PySem.Spec PyProof.Rows L2
theorem canAll_ints : ∀ l : List Int, PyData.canLayAll0 (l.map PyData.int) = true
  | [] => by simp [PyData.canLayAll0]
  | x :: l => by
    rw [List.map_cons]
    simp [PyData.canLayAll0, PyData.canLay0, canAll_ints l]
theorem depAll_ints : ∀ l : List Int, PyData.depthAll (l.map PyData.int) = 0
  | [] => by simp [PyData.depthAll]
  | x :: l => by
    rw [List.map_cons]
    simp [PyData.depthAll, PyData.depth, depAll_ints l]
theorem shaped_tupI (l : List Int) : SeqAt.shaped (.tuple (l.map PyData.int)) = true := by
  unfold SeqAt.shaped
  simp [PyData.canLay0, PyData.depth, canAll_ints, depAll_ints]
theorem shaped_lstI (l : List Int) : SeqAt.shaped (.list (l.map PyData.int)) = true := by
  unfold SeqAt.shaped
  simp [PyData.canLay0, PyData.depth, canAll_ints, depAll_ints]
theorem tyesT {σ : L2.St} {H : Hp} {A B : Hp → Prop} (h : A H) : tYes σ H (fun b H3 => if b = true then A H3 else B H3) := h
theorem item_ints {xs : List Int} {i : Nat} {x : V} (h : (xs.map V.int)[i]? = some x) : ∃ z, x = .int z ∧ xs[i]? = some z ∧ z ∈ xs := by
  rw [List.getElem?_map] at h
  cases e : xs[i]? with
  | none => rw [e] at h; cases h
  | some z =>
    rw [e] at h
    exact ⟨z, (Option.some.inj h).symm, rfl, List.mem_of_getElem? e⟩
theorem at_ints {xs : List Int} {k : Int} (h0 : 0 ≤ k) (h1 : k < (xs.length : Int)) : ∃ z, z ∈ xs ∧ atI (xs.map V.int) k = some (.int z) := by
  have hj : k.toNat < xs.length := by omega
  refine ⟨xs[k.toNat], List.getElem_mem hj, ?_⟩
  refine at_of (j := k.toNat) (by omega) ?_
  rw [List.getElem?_map, List.getElem?_eq_getElem hj]
  rfl
theorem mem_ins {ys : List Int} {j : Nat} {y k : Int} (hy : y ∈ ys) : k ∈ ys.take j ++ [y] ++ ys.drop j ↔ k ∈ ys := by
  have e : k ∈ ys ↔ k ∈ ys.take j ∨ k ∈ ys.drop j := by rw [← List.mem_append, List.take_append_drop]
  rw [List.mem_append, List.mem_append, List.mem_singleton, e]
  constructor
  · rintro ((h | h) | h)
    · exact .inl h
    · subst h
      exact e.mp hy
    · exact .inr h
  · rintro (h | h)
    · exact .inl (.inl h)
    · exact .inr h
theorem madeS {C : Addr} {H : Hp} {x dx : Addr} (nx : H x = none) (nd : H dx = none) : Same H (upd (upd H dx (.own x)) x (.ins C dx [])) := fun b o e => by
  rw [upd_ne (ne_of_none e nx), upd_ne (ne_of_none e nd)]
  exact e
theorem pe_gcx {X : Cx} {x : Str} {pos : Pos} {v : V} (hg : Gl X x) (h : ∃ u, X.mg x = some u ∧ RelV v u) (hd : (x == ("__debug__" : Str)) = false := by decide +kernel) : PE X (.Name x pos) (tC v) := by
  obtain ⟨u, h, r⟩ := h
  exact pe_glob hg h r hd
theorem call_intB {X : Cx} : CallR X (.type "int") (fun xs H Q => ∃ k, xs = [.bl k] ∧ Q (.int (if k = true then 1 else 0)) H) := fun pins s σ H xs us Q I r h => call_int1 pins s σ H xs us Q I r (.inr h)
theorem cut_lo_len (z : Str) {k : Int} (h : 0 ≤ k) : (cutS z none (some k)).length ≤ k.toNat := by
  show (List.toArray _).size ≤ _
  rw [List.size_toArray, List.length_take]
  show min (HT.sIx z.length z.length (some k) - 0) _ ≤ _
  have e : HT.sIx z.length z.length (some k) = min k.toNat z.length := by
    show (if k < 0 then (k + (z.length : Int)).toNat else min k.toNat z.length) = _
    rw [if_neg (by omega)]
  omega
theorem cut_hi_len (z : Str) {k : Int} (h : 0 ≤ k) : (cutS z (some k) none).length ≤ z.length - k.toNat := by
  show (List.toArray _).size ≤ _
  have e : HT.sIx z.length 0 (some k) = min k.toNat z.length := by
    show (if k < 0 then (k + (z.length : Int)).toNat else min k.toNat z.length) = _
    rw [if_neg (by omega)]
  rw [List.size_toArray, List.length_take, List.length_drop, e]
  show min (z.length - min k.toNat z.length) (z.cps.toList.length - min k.toNat z.length) ≤ _
  have : z.cps.toList.length = z.length := Array.length_toList
  omega
end Vx
namespace Vx
open PySem PySem.Spec PyProof.Rows L2
/-- isinstance of the caught error, its class told by the reading -/
theorem call_isE2 {X : Cx} {a D : Addr} {oe : Obj} {cls : Value} {d : Option Addr} {pn : List (Addr × Obj)} (C : ExcC X.K D) (hz : Zc cls d oe) (hf : ∃ vs, oe.data = .fields vs) :
    CallR (X.suite a ((a, oe) :: pn)) (.builtin "isinstance") (fun xs H Q => cls = .ref D ∧ d = none ∧ rIsE X.K D a xs H Q) := fun pins s σ H xs us Q I r h => by
  obtain ⟨h1, h2, h3⟩ := h
  subst h1 h2
  exact call_isE C hz hf pins s σ H xs us Q I r h3
theorem kit_sub {K : PySem.W.Frag} {D C : Addr} {b : Bool} (hc : PySem.W.isClsIn K C = true) (ht : PySem.W.typeIn K (.ref C) = some (.type "type")) (h1 : PySem.W.subIn K (.ref D) (.ref D) = some true) (h2 : PySem.W.subIn K (.ref D) (.ref C) = some b) :
    PySem.W.kitOne K (.ref D) (.ref C) = some b := by
  unfold PySem.W.kitOne
  by_cases e : D = C
  · subst e
    rw [h1] at h2
    rw [if_pos (beq_self_eq_true _)]
    exact h2
  · rw [if_neg (by intro q; exact e (Value.ref.inj (beq_iff_eq.mp q)))]
    unfold PySem.W.kitCls
    have hc' : (PySem.W.clsIn K C).isSome = true := hc
    have e2 : ((PySem.W.clsIn K C).isSome && PySem.W.typeIn K (.ref C) == some (.type "type")) = true := by rw [hc', ht]; rfl
    show (if ((PySem.W.clsIn K C).isSome && PySem.W.typeIn K (.ref C) == some (.type "type")) = true then PySem.W.subIn K (.ref D) (.ref C) else none) = some b
    rw [if_pos e2]
    exact h2
theorem kit_ve {K : PySem.W.Frag} {D : Addr} {b : Bool} (h2 : PySem.W.subIn K (.ref D) (.type "ValueError") = some b) : PySem.W.kitOne K (.ref D) (.type "ValueError") = some b := by
  unfold PySem.W.kitOne
  rw [if_neg (by intro q; cases (beq_iff_eq.mp q))]
  show (if PySem.W.kitMeta "ValueError" = true then PySem.W.subIn K (.ref D) (.type "ValueError") else none) = some b
  rw [if_pos (by decide +kernel)]
  exact h2
end Vx
namespace Vx
open PySem PySem.Spec PyProof.Rows L2
/-! ### pairs and lists of them -/
abbrev Pr := Int × Int
def pr (l : List Int) : Pr := (l.getD 0 0, l.getD 1 0)
def Cells (H : Hp) (l : Addr) (ps : List Pr) : Prop :=
  ∃ ts : List (Addr × Pr), H l = some (.lst (ts.map fun t => V.ref t.1)) ∧ (∀ t ∈ ts, H t.1 = some (.tup [.int t.2.1, .int t.2.2])) ∧ ts.map (·.2) = ps
theorem Cells.up {H H' : Hp} {l : Addr} {ps : List Pr} (e : Same H H') (h : Cells H l ps) : Cells H' l ps := by
  obtain ⟨ts, h1, h2, h3⟩ := h
  exact ⟨ts, e _ _ h1, fun t m => e _ _ (h2 t m), h3⟩
def SetP (P : Program) (w : World) (H : Hp) (a : Addr) (ps : List Pr) : Prop :=
  ∃ L : List (Addr × List Int), H a = some (SetTO P w a L) ∧ (∀ q ∈ L, q.2.length = 2 ∧ H q.1 = some (.tup (q.2.map V.int))) ∧ ∀ x, x ∈ L.map (fun q => pr q.2) ↔ x ∈ ps
abbrev ltP (p q : Pr) : Prop := SrtO.lexB p q = true
theorem pr_inj : ∀ {l m : List Int}, l.length = 2 → m.length = 2 → pr l = pr m → l = m
  | [a, b], [c, d], _, _, h => by
    have h1 : a = c := congrArg Prod.fst h
    have h2 : b = d := congrArg Prod.snd h
    rw [h1, h2]
theorem len2 : ∀ {l : List Int}, l.length = 2 → l = [(pr l).1, (pr l).2]
  | [a, b], _ => rfl
section
variable {P : Program} {w : World} {A : Around} {E : Value → Shared → Prop} {s : Shared}
def adr : Value → Addr
  | .ref a => a
  | _ => 0
/-- the set's members, sorted -/
theorem sorted_pairs {a : Addr} {L : List (Addr × List Int)} {es : Array (Int × Value)} {ep : Nat} {t : SetTable} {Q : Value → Shared → Prop} (R : SetTR P w s.heap a L es ep t) (hh : A.handled = none) (h2 : ∀ q ∈ L, q.2.length = 2)
    (hQ : ∀ s' p (ts : List (Addr × Pr)) (c : Nat), (∀ b o, s.heap.get? b = some o → s'.heap.get? b = some o) → s'.gens = s.gens → s'.os = s.os → s.heap.objs.size ≤ p →
      s'.heap.get? p = some (seqObj "list" (ts.map fun q => Value.ref q.1).toArray c) → (∀ q ∈ ts, ∃ r ∈ L, r.1 = q.1 ∧ pr r.2 = q.2) → (∀ x, x ∈ ts.map (·.2) ↔ x ∈ L.map fun q => pr q.2) → (ts.map (·.2)).Pairwise ltP → ts.length = L.length → Q (.ref p) s') :
    wpAny (model P w) A (call (.builtin "sorted") [.ref a]) Q E s := by
  have few := R.few
  obtain ⟨o, go, xo, dat⟩ := R.ob
  refine Calls.call_function_entry kind_sorted plain_sorted entry_sorted (args_sorted1 _) ?_
  unfold Builtin.«sorted»
  refine wpAny_bind (m := checkCount "sorted" 1 1 _) (wpAny_pure ?_)
  refine wpAny_bind (collect_set (A := A.in1) hh ⟨o, go, xo.1, dat⟩ R.fits (by rw [R.size]; unfold scanBound; omega) R.tab.ris R.led fun s1 vs keep sz gg oo pm => ?_)
  have em : es.toList.map (·.2) = L.map fun q => Value.ref q.1 := by
    rw [R.rows]
    show (L.map fun q => (thash P w q.2, Value.ref q.1)).map (·.2) = _
    rw [List.map_map] <;> rfl
  rw [em] at pm
  have vl : vs.length = L.length := by rw [pm.length_eq, List.length_map]
  have lim : vs.length ≤ sizeLine := by
    rw [sizeLine_eq]
    omega
  refine wpAny_bind (wpAny_newList ?_ lim)
  have gl : (s1.heap.push (seqObj "list" vs.toArray 0)).get? s1.heap.objs.size = some (seqObj "list" vs.toArray 0) := Heap.get?_push_size _ rfl
  generalize hh1 : s1.heap.push (seqObj "list" vs.toArray 0) = h1 at gl
  have keep1 : ∀ b u, s1.heap.get? b = some u → h1.get? b = some u := fun b u e => by
    rw [← hh1]
    exact Heap.get?_push_of_some _ e
  have tin : ∀ q ∈ L, TS.TupInts h1 (.ref q.1) q.2 := fun q m => tupInts_of (P := P) (w := w) (isT_keep (R.tup q m) fun b u e => keep1 b u (keep b u e))
  have mem : ∀ v ∈ vs, ∃ q ∈ L, v = Value.ref q.1 := fun v m => by
    obtain ⟨q, m1, e⟩ := List.mem_map.mp (pm.mem_iff.mp m)
    exact ⟨q, m1, e.symm⟩
  have key : ∀ q ∈ L, pr (TS.intsOf h1 (.ref q.1)) = pr q.2 := fun q m => by rw [(tin q m).ints]
  have isP : ∀ v ∈ vs, Srt.IsPair h1 v (pr (TS.intsOf h1 v)).1 (pr (TS.intsOf h1 v)).2 := fun v m => by
    obtain ⟨q, m1, rfl⟩ := mem v m
    rw [key q m1]
    have i := tin q m1
    have l2 := len2 (h2 q m1)
    rw [l2] at i
    obtain ⟨b, items, eb, ⟨o1, go1, co1, n1, do1⟩, ia⟩ := i
    cases eb
    obtain ⟨xs⟩ := items
    cases ia with
    | cons _ t1 ia =>
      cases ia with
      | cons _ t2 ia =>
        cases ia
        exact ⟨_, o1, t1, t2, n1, rfl, go1, co1, do1⟩
  refine wpAny_bind (wpAny_holding (wpAny_call_entry (s := { s1 with heap := h1 }) slot_list_sort ⟨_, gl, rfl⟩ entry_list_sort (SrtO.list_sort_ord (s := { s1 with heap := h1 }) (SrtO.swo_lex fun v => pr (TS.intsOf h1 v)) gl lim (fun two => SrtO.pairs_sortableO (by omega) isP fun o1 e => ?_) fun out srt stb => ⟨_, rfl, ?_⟩) (args_list_sort _)))
  · have e' : some o1 = some (seqObj "list" vs.toArray 0) := e.symm.trans gl
    cases e'
    intro c
    exact absurd (Value.type.inj c) (by decide)
  · obtain ⟨c, gc⟩ := sortedHeap_at (vs := vs) (out := out.toArray) gl
    have omem : ∀ v ∈ out, ∃ q ∈ L, v = Value.ref q.1 := fun v m => mem v (stb.perm.mem_iff.mp m)
    refine wpAny_pure ⟨_, rfl, hQ _ s1.heap.objs.size (out.map fun v => (adr v, pr (TS.intsOf h1 v))) c (fun b u e => ?_) gg oo sz ?_ ?_ ?_ ?_ ?_⟩
    · have g1 := keep b u e
      have lt1 := Heap.lt_size g1
      show (sortedHeap h1 s1.heap.objs.size vs out.toArray).get? b = some u
      rw [sortedHeap_old (Nat.ne_of_lt lt1) (Heap.lt_size (keep1 b u g1))]
      exact keep1 b u g1
    · have eo : (out.map fun v => (adr v, pr (TS.intsOf h1 v))).map (fun q => Value.ref q.1) = out := by
        rw [List.map_map]
        refine (List.map_congr_left fun v m => ?_).trans (List.map_id _)
        obtain ⟨q, _, rfl⟩ := omem v m
        rfl
      rw [eo]
      exact gc
    · intro q m
      obtain ⟨v, m1, rfl⟩ := List.mem_map.mp m
      obtain ⟨r, mr, rfl⟩ := omem v m1
      exact ⟨r, mr, rfl, (key r mr).symm⟩
    · intro x
      rw [List.map_map]
      constructor
      · intro m
        obtain ⟨v, m1, rfl⟩ := List.mem_map.mp m
        obtain ⟨r, mr, rfl⟩ := omem v m1
        exact List.mem_map.mpr ⟨r, mr, (key r mr).symm⟩
      · intro m
        obtain ⟨r, mr, rfl⟩ := List.mem_map.mp m
        exact List.mem_map.mpr ⟨.ref r.1, stb.perm.mem_iff.mpr (pm.mem_iff.mpr (List.mem_map.mpr ⟨r, mr, rfl⟩)), key r mr⟩
    · rw [List.map_map]
      have nd : ((L.map fun q => Value.ref q.1).map fun v => pr (TS.intsOf h1 v)).Nodup := by
        rw [List.map_map]
        refine List.pairwise_map.mpr ((List.pairwise_map.mp R.nd).imp_of_mem fun {q r} mq mr ne e => ne ?_)
        refine pr_inj (h2 q mq) (h2 r mr) ?_
        rw [← key q mq, ← key r mr]
        exact e
      have nd2 : (out.map fun v => pr (TS.intsOf h1 v)).Nodup := ((stb.perm.trans pm).map _).nodup_iff.mpr nd
      refine List.pairwise_map.mpr ((srt.and (List.pairwise_map.mp nd2)).imp fun {u v} h => ?_)
      have a1 := SrtO.lexB_no.mp h.1
      refine SrtO.lexB_iff.mpr ?_
      have a2 : ¬ ((pr (TS.intsOf h1 u)).1 = (pr (TS.intsOf h1 v)).1 ∧ (pr (TS.intsOf h1 u)).2 = (pr (TS.intsOf h1 v)).2) := fun e => h.2 (Prod.ext e.1 e.2)
      show (pr (TS.intsOf h1 u)).1 < (pr (TS.intsOf h1 v)).1 ∨ (pr (TS.intsOf h1 u)).1 = (pr (TS.intsOf h1 v)).1 ∧ (pr (TS.intsOf h1 u)).2 < (pr (TS.intsOf h1 v)).2
      omega
    · rw [List.length_map, stb.perm.length_eq, vl]
end
section
variable {X : Cx}
theorem cr_setP (hc : X.calm = true) (hu : X.A.units + 64 < cLine) : CallR X (.type "set") (fun xs H Q => ∃ l ps, xs = [V.ref l] ∧ Cells H l ps ∧ ps.length < 64 ∧
    ∀ a H', Same H H' → H a = none → SetP X.prog X.w H' a ps → Q (.ref a) H') := by
  intro pins s σ H xs us Q I r h
  obtain ⟨l, ps, rfl, ⟨ts, hl, ht, rfl⟩, few, q⟩ := h
  rw [List.length_map] at few
  refine cr_setOfT hc hu pins s σ H [V.ref l] us Q I r ⟨l, ts.map fun t => (t.1, [t.2.1, t.2.2]), rfl, ?_, ?_, by rw [List.length_map]; exact few, fun a L n sub all => ?_⟩
  · rw [List.map_map]
    exact lst_of hl
  · intro p m
    obtain ⟨t, m1, rfl⟩ := List.mem_map.mp m
    exact tup_of (ht t m1)
  · refine q a _ (newS n) n ⟨L, upd_same, fun p m => ?_, fun x => ⟨fun m => ?_, fun m => ?_⟩⟩
    · obtain ⟨t, m1, rfl⟩ := List.mem_map.mp (sub p m)
      exact ⟨rfl, newS n _ _ (ht t m1)⟩
    · obtain ⟨p, m1, rfl⟩ := List.mem_map.mp m
      obtain ⟨t, m2, rfl⟩ := List.mem_map.mp (sub p m1)
      exact List.mem_map.mpr ⟨t, m2, rfl⟩
    · obtain ⟨t, m1, rfl⟩ := List.mem_map.mp m
      obtain ⟨p, m2, e⟩ := List.mem_map.mp (all _ (List.mem_map.mpr ⟨t, m1, rfl⟩))
      refine List.mem_map.mpr ⟨p, m2, ?_⟩
      rw [e]
      rfl
theorem cr_sortedP (hc : X.calm = true) : CallR X (.builtin "sorted") (fun xs H Q => ∃ a ps, xs = [V.ref a] ∧ SetP X.prog X.w H a ps ∧
    ∀ p H' qs, Same H H' → H p = none → Cells H' p qs → qs.Pairwise ltP → (∀ x, x ∈ qs ↔ x ∈ ps) → qs.length < 64 → Q (.ref p) H') := by
  intro pins s σ H vs us Q I r h
  obtain ⟨a, ps, rfl, ⟨L, ha, hL, mem⟩, q⟩ := h
  have R0 : SetT0 X.prog X.w s.heap a L := (I.hok a _ ha).1
  obtain ⟨es, ep, t, R⟩ := R0.full fun p hp => I.isT (tup_of (hL p hp).2)
  rw [Vals.ref1 r]
  refine sorted_pairs R (I.ok.hd hc) (fun q m => (hL q m).1) fun s' p ts c k g o hp hg own all pw le => ?_
  have few := R.few
  have lim : (ts.map fun q => V.ref q.1).length ≤ sizeLine := by
    rw [List.length_map, sizeLine_eq]
    omega
  have n : H p = none := I.hok.fresh hp
  have vals : ∀ ts : List (Addr × Pr), Vals (ts.map fun q => V.ref q.1) (ts.map fun q => Value.ref q.1) := fun ts => by
    induction ts with
    | nil => exact .nil
    | cons t ts ih => exact .cons rfl ih
  have J : Inv X pins σ (upd H p (.lst (ts.map fun q => V.ref q.1))) { s with heap := s'.heap, gens := s'.gens, drawn := s'.drawn, toks := s'.toks } :=
    I.call (ch := []) (Un.laid k hp n) (I.hok.laid k hp ⟨lim, _, c, vals ts, hg⟩) (by rw [g]; exact I.bare) (fun _ z => nomatch z)
  have e : s' = { s with heap := s'.heap, gens := s'.gens, drawn := s'.drawn, toks := s'.toks } := by
    obtain ⟨_, _, _, _, _⟩ := s'
    obtain ⟨_, _, _, _, _⟩ := s
    cases o
    rfl
  rw [e]
  have sm : Same H (upd H p (.lst (ts.map fun q => V.ref q.1))) := newS n
  refine ⟨.ref p, _, J, rfl, q p _ (ts.map (·.2)) sm n ⟨ts, upd_same, fun t m => ?_, rfl⟩ pw (fun x => (all x).trans (mem x)) (by rw [List.length_map, le]; exact few)⟩
  obtain ⟨r, mr, e1, e2⟩ := own t m
  have z := sm _ _ (hL r mr).2
  rw [len2 (hL r mr).1, e1, e2] at z
  exact z
end
section
variable {X : Cx}
theorem pg_tupK {K : PySem.W.Frag} {es : List Expr} {k : Nat} {t : TGs} {n : Nat} {pos : Pos} (hK : X.K = K) (hc : X.calm = true) (h : PGs X es t)
    (hn : (assignEach es X.env).length = n := by rfl) (hst : (assignEach es X.env).findIdx? (·.1) = none := by rfl) : PG X (.Tuple es k pos) (gTup K n t) := by
  subst hK
  exact pg_tup hc h hn hst
theorem ix_tupK {K : PySem.W.Frag} (hK : X.K = K) : IxR X (rIxT K) := by
  subst hK
  exact ix_tup
end
/-! ### comprehensions over such a list -/
theorem item_cells {H : Hp} {ts : List (Addr × Pr)} {ps : List Pr} {i : Nat} {x : V} (h : (ts.map fun t => V.ref t.1)[i]? = some x) (e : ts.map (·.2) = ps) :
    ∃ t ∈ ts, x = .ref t.1 ∧ ps[i]? = some t.2 := by
  rw [List.getElem?_map] at h
  cases q : ts[i]? with
  | none => rw [q] at h; cases h
  | some t =>
    rw [q] at h
    refine ⟨t, List.mem_of_getElem? q, (Option.some.inj h).symm, ?_⟩
    rw [← e, List.getElem?_map, q]
    rfl
theorem lc_cells {K : PySem.W.Frag} {l : Addr} {ps : List Pr} {g : TG} {tt : TT} {te : TE} {vs : List Nat} {σ : L2.St} {H1 : Hp} {D : Addr} {Qd : Hp → Prop} (f : Pr → Pr) (hC : Cells H1 l ps) (nD : H1 D = none) (few : ps.length < sizeLine)
    (hs : ∀ (t : Addr) (x : Pr) (H' : Hp) (Po : V → Hp → Prop) (Pn : Hp → Prop), Same H1 H' → H' t = some (.tup [.int x.1, .int x.2]) → (∀ t2, H' t2 = none → Po (.ref t2) (upd H' t2 (.tup [.int (f x).1, .int (f x).2]))) →
      g (.ref t) (wipe σ vs) H' fun σ2 H2 => wipe σ2 vs = wipe σ vs ∧ tt σ2 H2 fun b H3 => if b = true then te σ2 H3 Po else Pn H3)
    (hd : ∀ H', Same H1 H' → Cells H' D (ps.map f) → Qd H') :
    ∃ W : Nat → Nat → Hp → Prop, (∃ m, W 0 m (upd H1 D (.lst []))) ∧ ∀ i m H, W i m H →
      ((Itl K l).stop i H ∧ Qd H) ∨ ((Itl K l).go i H ∧ ∃ Nx : Hp → Prop, (∀ H', Nx H' → ∃ m', m' < m ∧ W (i + 1) m' H') ∧ ∀ x H', (Itl K l).yld i H x H' → g x (wipe σ vs) H' fun σ2 H2 => wipe σ2 vs = wipe σ vs ∧ tt σ2 H2 fun b H3 =>
        if b = true then te σ2 H3 fun y H4 => ∃ acc, H4 D = some (.lst acc) ∧ acc.length < sizeLine ∧ Nx (upd H4 D (.lst (acc ++ [y]))) else Nx H3) := by
  obtain ⟨ts, hl, ht, rfl⟩ := hC
  rw [List.length_map] at few
  refine lc_list (K := K) (a := l) (xs := ts.map fun t => V.ref t.1) (fun i H' => Same H1 H' ∧ ∃ us : List (Addr × Pr), H' D = some (.lst (us.map fun t => V.ref t.1)) ∧ (∀ t ∈ us, H' t.1 = some (.tup [.int t.2.1, .int t.2.2])) ∧ us.map (·.2) = ((ts.map (·.2)).take i).map f)
    ⟨newS nD, [], upd_same, fun _ m => (by cases m), rfl⟩ (fun i H' _ p => lst_of (p.1 _ _ hl)) ?_ ?_
  · rintro i x H' hi ⟨sm, us, h1, h2, h3⟩
    obtain ⟨t, mt, rfl, hp⟩ := item_cells (H := H') hi rfl
    have ul : us.length = i := by
      have z := congrArg List.length h3
      rw [List.length_map, List.length_map, List.length_take, List.length_map] at z
      have := (List.getElem?_eq_some_iff.mp hi).1
      rw [List.length_map] at this
      omega
    refine hs t.1 t.2 H' _ _ sm (sm _ _ (ht t mt)) fun t2 n2 => ⟨us.map fun t => V.ref t.1, ?_, ?_, ?_, us ++ [(t2, f t.2)], ?_, ?_, ?_⟩
    · exact newS n2 _ _ h1
    · rw [List.length_map, ul]
      have := (List.getElem?_eq_some_iff.mp hi).1
      rw [List.length_map] at this
      omega
    · exact mutS (sm.trans (newS n2)) nD
    · rw [upd_same, List.map_append]
      rfl
    · have nD2 : t2 ≠ D := fun e => by
        rw [e, h1] at n2
        cases n2
      intro u m
      rcases List.mem_append.mp m with m | m
      · have z := h2 u m
        rw [upd_ne (fun e => ?_)]
        · exact newS n2 _ _ z
        · rw [e, h1] at z
          cases z
      · rw [List.mem_singleton.mp m, upd_ne nD2, upd_same]
    · rw [List.map_append, h3, take_next hp, List.map_append]
      rfl
  · rintro H' ⟨sm, us, h1, h2, h3⟩
    refine hd H' sm ⟨us, h1, h2, ?_⟩
    rw [h3, List.length_map, List.take_of_length_le (by rw [List.length_map]; exact Nat.le_refl _)]
theorem lc_nums {K : PySem.W.Frag} {l : Addr} {ps : List Pr} {g : TG} {tt : TT} {te : TE} {vs : List Nat} {σ : L2.St} {H1 : Hp} {D : Addr} {Qd : Hp → Prop} (f : Pr → Int) (hC : Cells H1 l ps) (nD : H1 D = none) (few : ps.length < sizeLine)
    (hs : ∀ (t : Addr) (x : Pr) (H' : Hp) (Po : V → Hp → Prop) (Pn : Hp → Prop), Same H1 H' → H' t = some (.tup [.int x.1, .int x.2]) → Po (.int (f x)) H' →
      g (.ref t) (wipe σ vs) H' fun σ2 H2 => wipe σ2 vs = wipe σ vs ∧ tt σ2 H2 fun b H3 => if b = true then te σ2 H3 Po else Pn H3)
    (hd : ∀ H', Same H1 H' → H' D = some (.lst ((ps.map f).map V.int)) → Qd H') :
    ∃ W : Nat → Nat → Hp → Prop, (∃ m, W 0 m (upd H1 D (.lst []))) ∧ ∀ i m H, W i m H →
      ((Itl K l).stop i H ∧ Qd H) ∨ ((Itl K l).go i H ∧ ∃ Nx : Hp → Prop, (∀ H', Nx H' → ∃ m', m' < m ∧ W (i + 1) m' H') ∧ ∀ x H', (Itl K l).yld i H x H' → g x (wipe σ vs) H' fun σ2 H2 => wipe σ2 vs = wipe σ vs ∧ tt σ2 H2 fun b H3 =>
        if b = true then te σ2 H3 fun y H4 => ∃ acc, H4 D = some (.lst acc) ∧ acc.length < sizeLine ∧ Nx (upd H4 D (.lst (acc ++ [y]))) else Nx H3) := by
  obtain ⟨ts, hl, ht, rfl⟩ := hC
  rw [List.length_map] at few
  refine lc_list (K := K) (a := l) (xs := ts.map fun t => V.ref t.1) (fun i H' => Same H1 H' ∧ H' D = some (.lst ((((ts.map (·.2)).take i).map f).map V.int)))
    ⟨newS nD, upd_same⟩ (fun i H' _ p => lst_of (p.1 _ _ hl)) ?_ ?_
  · rintro i x H' hi ⟨sm, h1⟩
    obtain ⟨t, mt, rfl, hp⟩ := item_cells (H := H') hi rfl
    refine hs t.1 t.2 H' _ _ sm (sm _ _ (ht t mt)) ⟨_, h1, ?_, mutS sm nD, ?_⟩
    · rw [List.length_map, List.length_map, List.length_take, List.length_map]
      omega
    · rw [upd_same, take_next hp, List.map_append, List.map_append]
      rfl
  · rintro H' ⟨sm, h1⟩
    rw [List.length_map, List.take_of_length_le (by rw [List.length_map]; exact Nat.le_refl _)] at h1
    exact hd H' sm h1
/-! ### one such list -/
def CanP (ps qs : List Pr) : Prop := qs.Pairwise ltP ∧ ∀ x, x ∈ qs ↔ x ∈ ps
theorem ltP_iff {p q : Pr} : ltP p q ↔ p.1 < q.1 ∨ (p.1 = q.1 ∧ p.2 < q.2) := SrtO.lexB_iff
theorem ascP_eq : ∀ {l m : List Pr}, l.Pairwise ltP → m.Pairwise ltP → (∀ k, k ∈ l ↔ k ∈ m) → l = m
  | [], [], _, _, _ => rfl
  | [], y :: m, _, _, h => absurd ((h y).mpr List.mem_cons_self) (by simp)
  | x :: l, [], _, _, h => absurd ((h x).mp List.mem_cons_self) (by simp)
  | x :: l, y :: m, hl, hm, h => by
    obtain ⟨h1, h2⟩ := List.pairwise_cons.mp hl
    obtain ⟨h3, h4⟩ := List.pairwise_cons.mp hm
    have irr : ∀ a b : Pr, ltP a b → ltP b a → False := fun a b p q => by
      have p := ltP_iff.mp p
      have q := ltP_iff.mp q
      omega
    have e : x = y := by
      rcases List.mem_cons.mp ((h x).mp List.mem_cons_self) with e | e
      · exact e
      · rcases List.mem_cons.mp ((h y).mpr List.mem_cons_self) with e2 | e2
        · exact e2.symm
        · exact (irr _ _ (h3 _ e) (h1 _ e2)).elim
    subst e
    rw [ascP_eq h2 h4 fun k => ?_]
    have q := h k
    constructor
    · intro hk
      rcases List.mem_cons.mp (q.mp (List.mem_cons_of_mem _ hk)) with e | e
      · have z := h1 _ hk
        rw [e] at z
        exact (irr _ _ z z).elim
      · exact e
    · intro hk
      rcases List.mem_cons.mp (q.mpr (List.mem_cons_of_mem _ hk)) with e | e
      · have z := h3 _ hk
        rw [e] at z
        exact (irr _ _ z z).elim
      · exact e
theorem canP_eq {ps qs m : List Pr} (h : CanP ps qs) (h2 : m.Pairwise ltP) (h3 : ∀ k, k ∈ ps ↔ k ∈ m) : qs = m := ascP_eq h.1 h2 fun k => (h.2 k).trans (h3 k)
/-! ### as data -/
def pd (p : Pr) : PyData := .tuple [.int p.1, .int p.2]
theorem eqv_pd (p q : Pr) : PyData.eqv (pd p) (pd q) = decide (p = q) := by
  show ((p.1 == q.1) && ((p.2 == q.2) && true)) = _
  obtain ⟨a, b⟩ := p
  obtain ⟨c, d⟩ := q
  by_cases e1 : a = c <;> by_cases e2 : b = d <;> simp [e1, e2]
theorem eqvAll_pd : ∀ (l m : List Pr), PyData.eqvAll (l.map pd) (m.map pd) = decide (l = m)
  | [], [] => by simp [PyData.eqvAll]
  | [], y :: m => by simp [PyData.eqvAll]
  | x :: l, [] => by simp [PyData.eqvAll]
  | x :: l, y :: m => by
    show (PyData.eqv (pd x) (pd y) && PyData.eqvAll (l.map pd) (m.map pd)) = _
    rw [eqvAll_pd l m, eqv_pd]
    by_cases e : x = y <;> by_cases e2 : l = m <;> simp [e, e2]
theorem eqv_cells (l m : List Pr) : PyData.eqv (.list (l.map pd)) (.list (m.map pd)) = decide (l = m) := eqvAll_pd l m
theorem canAll_pd : ∀ l : List Pr, PyData.canLayAll0 (l.map pd) = true
  | [] => by simp [PyData.canLayAll0]
  | x :: l => by
    rw [List.map_cons]
    simp [PyData.canLayAll0, PyData.canLay0, pd, canAll_pd l]
theorem depAll_pd : ∀ l : List Pr, PyData.depthAll (l.map pd) ≤ 1
  | [] => by simp [PyData.depthAll]
  | x :: l => by
    rw [List.map_cons]
    have := depAll_pd l
    simp only [PyData.depthAll, PyData.depth, pd]
    omega
theorem shaped_cells (l : List Pr) : SeqAt.shaped (.list (l.map pd)) = true := by
  unfold SeqAt.shaped
  have := depAll_pd l
  simp only [PyData.canLay0, PyData.depth, canAll_pd]
  simp
  omega
theorem dp_cells {K : PySem.W.Frag} {H : Hp} {a : Addr} {ps : List Pr} (h : Cells H a ps) : Dp K H (.ref a) (.list (ps.map pd)) := by
  obtain ⟨ts, hl, ht, rfl⟩ := h
  refine .lst (lst_of hl) ?_
  have go : ∀ us : List (Addr × Pr), (∀ t ∈ us, H t.1 = some (.tup [.int t.2.1, .int t.2.2])) → DpAll K H (us.map fun t => V.ref t.1) ((us.map (·.2)).map pd) := fun us => by
    induction us with
    | nil => exact fun _ => .nil
    | cons t us ih => exact fun h => .cons (.tup (tup_of (h t List.mem_cons_self)) (.cons (.int _) (.cons (.int _) .nil))) (ih fun u m => h u (List.mem_cons_of_mem _ m))
  exact go ts ht
/-! ### sorted, of such a list -/
def kH (H : Hp) : V → Pr
  | .ref a => match H a with
    | some (.tup [.int x, .int y]) => (x, y)
    | _ => (0, 0)
  | _ => (0, 0)
def adV : V → Addr
  | .ref a => a
  | _ => 0
theorem kH_at {H : Hp} {a : Addr} {x : Pr} (h : H a = some (.tup [.int x.1, .int x.2])) : kH H (.ref a) = x := by
  show (match H a with
    | some (.tup [.int x, .int y]) => (x, y)
    | _ => (0, 0)) = x
  rw [h]
theorem ltP_irr {a b : Pr} (p : ltP a b) (q : ltP b a) : False := by
  have p := ltP_iff.mp p
  have q := ltP_iff.mp q
  omega
theorem nodup_lt {l : List Pr} (h : l.Pairwise ltP) : l.Nodup := h.imp fun {a b} q e => by
  subst e
  exact ltP_irr q q
theorem cr_sortedC {X : Cx} : CallR X (.builtin "sorted") (fun xs H Q => ∃ l ps, xs = [V.ref l] ∧ Cells H l ps ∧ ps.Nodup ∧
    ∀ p H' qs, Same H H' → H p = none → Cells H' p qs → CanP ps qs → qs.length = ps.length → Q (.ref p) H') := by
  intro pins s σ H xs us Q I r h
  obtain ⟨l, ps, rfl, ⟨ts, hl, ht, rfl⟩, nd, q⟩ := h
  refine cr_sortedPO pins s σ H [V.ref l] us Q I r ⟨l, ts.map fun t => V.ref t.1, kH H, rfl, lst_of hl, fun x m => ?_, fun ys p srt stb n => ?_⟩
  · obtain ⟨t, m1, rfl⟩ := List.mem_map.mp m
    have g := ht t m1
    refine ⟨t.1, rfl, ?_⟩
    rw [kH_at g]
    exact g
  · have own : ∀ y ∈ ys, ∃ t ∈ ts, y = V.ref t.1 := fun y m => by
      obtain ⟨t, m1, e⟩ := List.mem_map.mp (stb.perm.mem_iff.mp m)
      exact ⟨t, m1, e.symm⟩
    have key : ∀ t ∈ ts, kH H (.ref t.1) = t.2 := fun t m => kH_at (ht t m)
    have pm : (ys.map (kH H)).Perm (ts.map (·.2)) := by
      have z := stb.perm.map (kH H)
      rw [List.map_map] at z
      rw [show ts.map (·.2) = ts.map (kH H ∘ fun t => V.ref t.1) from List.map_congr_left fun t m => (key t m).symm]
      exact z
    have sm : Same H (upd H p (.lst ys)) := newS n
    have eo : (ys.map fun v => (adV v, kH H v)).map (fun t => V.ref t.1) = ys := by
      rw [List.map_map]
      refine (List.map_congr_left fun v m => ?_).trans (List.map_id _)
      obtain ⟨t, _, rfl⟩ := own v m
      rfl
    refine q p _ (ys.map (kH H)) sm n ⟨ys.map fun v => (adV v, kH H v), ?_, fun u m => ?_, ?_⟩ ⟨?_, fun x => pm.mem_iff⟩ pm.length_eq
    · rw [eo, upd_same]
    · obtain ⟨v, m1, rfl⟩ := List.mem_map.mp m
      obtain ⟨t, m2, rfl⟩ := own v m1
      refine sm _ _ ?_
      show H t.1 = _
      rw [key t m2]
      exact ht t m2
    · rw [List.map_map]
      rfl
    · have nd2 : (ys.map (kH H)).Nodup := pm.nodup_iff.mpr nd
      refine List.pairwise_map.mpr ((srt.and (List.pairwise_map.mp nd2)).imp fun {u v} h => ?_)
      have a1 := SrtO.lexB_no.mp h.1
      have a2 : ¬ ((kH H u).1 = (kH H v).1 ∧ (kH H u).2 = (kH H v).2) := fun e => h.2 (Prod.ext e.1 e.2)
      refine ltP_iff.mpr ?_
      omega
/-! ### dicts whose keys are such pairs -/
def keyP (x : Pr) : List L2.Key := [Sum.inl x.1, Sum.inl x.2]
theorem keyP_inj {x y : Pr} (h : keyP x = keyP y) : x = y := by
  injection h with h1 h2
  injection h2 with h2 _
  exact Prod.ext (Sum.inl.inj h1) (Sum.inl.inj h2)
def KeysP (kvs : List (List L2.Key × V)) (ps : List Pr) : Prop := kvs.map (·.1) = ps.map keyP ∧ ps.Nodup
theorem KeysP.put {kvs : List (List L2.Key × V)} {ps : List Pr} (h : KeysP kvs ps) (x : Pr) (v : V) :
    ∃ qs, KeysP (putK kvs (keyP x) v) qs ∧ qs.length ≤ ps.length + 1 ∧ ∀ y, y ∈ qs ↔ y ∈ ps ∨ y = x := by
  have mem : (kvs.any fun kv => decide (kv.1 = keyP x)) = true ↔ x ∈ ps := by
    rw [List.any_eq_true]
    constructor
    · rintro ⟨kv, m, e⟩
      have m2 : kv.1 ∈ ps.map keyP := by
        rw [← h.1]
        exact List.mem_map.mpr ⟨kv, m, rfl⟩
      obtain ⟨y, my, ey⟩ := List.mem_map.mp m2
      rw [← keyP_inj (ey.trans (of_decide_eq_true e))]
      exact my
    · intro m
      have m2 : keyP x ∈ kvs.map (·.1) := by
        rw [h.1]
        exact List.mem_map.mpr ⟨x, m, rfl⟩
      obtain ⟨kv, mk, e⟩ := List.mem_map.mp m2
      exact ⟨kv, mk, decide_eq_true e⟩
  by_cases c : x ∈ ps
  · refine ⟨ps, ⟨?_, h.2⟩, by omega, fun y => ⟨.inl, fun z => z.elim id fun e => e ▸ c⟩⟩
    unfold putK
    rw [if_pos (mem.mpr c), List.map_map, ← h.1]
    refine List.map_congr_left fun kv _ => ?_
    show (if kv.1 = keyP x then (kv.1, v) else kv).1 = kv.1
    by_cases e : kv.1 = keyP x
    · rw [if_pos e]
    · rw [if_neg e]
  · refine ⟨ps ++ [x], ⟨?_, ?_⟩, by rw [List.length_append]; exact Nat.le_refl _, fun y => by rw [List.mem_append, List.mem_singleton]⟩
    · unfold putK
      rw [if_neg (fun z => c (mem.mp z)), List.map_append, List.map_append, h.1]
      rfl
    · refine List.pairwise_append.mpr ⟨h.2, List.pairwise_cons.mpr ⟨fun _ m => (by cases m), List.Pairwise.nil⟩, fun a ma b mb e => ?_⟩
      rw [List.mem_singleton.mp mb] at e
      exact c (e ▸ ma)
theorem KeysP.len {kvs : List (List L2.Key × V)} {ps : List Pr} (h : KeysP kvs ps) : kvs.length = ps.length := by
  have z := congrArg List.length h.1
  rw [List.length_map, List.length_map] at z
  exact z
theorem KeysP.at {kvs : List (List L2.Key × V)} {ps : List Pr} (h : KeysP kvs ps) {i : Nat} {k : List L2.Key} {v : V} (e : kvs[i]? = some (k, v)) : ∃ x, ps[i]? = some x ∧ k.map kV = [.int x.1, .int x.2] := by
  have z := congrArg (fun l => l[i]?) h.1
  simp only [List.getElem?_map] at z
  rw [e] at z
  cases q : ps[i]? with
  | none => rw [q] at z; cases z
  | some x =>
    rw [q] at z
    refine ⟨x, rfl, ?_⟩
    have : k = keyP x := Option.some.inj z
    rw [this]
    rfl
/-- the keys of such a dict, listed -/
theorem lc_keysP {d : Addr} {od : Obj} {kvs : List (List L2.Key × V)} {ps : List Pr} {vs : List Nat} {σ : L2.St} {H1 : Hp} {D : Addr} {Qd : Hp → Prop} {g : TG} {tt : TT} {te : TE} (hK : KeysP kvs ps) (hD : H1 d = some (.frz od (.dT kvs))) (nD : H1 D = none) (few : ps.length < sizeLine)
    (hs : ∀ (t : Addr) (x : Pr) (H' : Hp) (Po : V → Hp → Prop) (Pn : Hp → Prop), H' t = some (.tup [.int x.1, .int x.2]) → Po (.ref t) H' →
      g (.ref t) (wipe σ vs) H' fun σ2 H2 => wipe σ2 vs = wipe σ vs ∧ tt σ2 H2 fun b H3 => if b = true then te σ2 H3 Po else Pn H3)
    (hd : ∀ H', Same H1 H' → Cells H' D ps → Qd H') :
    ∃ W : Nat → Nat → Hp → Prop, (∃ m, W 0 m (upd H1 D (.lst []))) ∧ ∀ i m H, W i m H →
      ((Itkt d od kvs).stop i H ∧ Qd H) ∨ ((Itkt d od kvs).go i H ∧ ∃ Nx : Hp → Prop, (∀ H', Nx H' → ∃ m', m' < m ∧ W (i + 1) m' H') ∧ ∀ x H', (Itkt d od kvs).yld i H x H' → g x (wipe σ vs) H' fun σ2 H2 => wipe σ2 vs = wipe σ vs ∧ tt σ2 H2 fun b H3 =>
        if b = true then te σ2 H3 fun y H4 => ∃ acc, H4 D = some (.lst acc) ∧ acc.length < sizeLine ∧ Nx (upd H4 D (.lst (acc ++ [y]))) else Nx H3) := by
  have len := hK.len
  refine lc_it walk_keysT (fun i H' => Same H1 H' ∧ ∃ us : List (Addr × Pr), H' D = some (.lst (us.map fun t => V.ref t.1)) ∧ (∀ t ∈ us, H' t.1 = some (.tup [.int t.2.1, .int t.2.2])) ∧ us.map (·.2) = ps.take i)
    ⟨newS nD, [], upd_same, fun _ m => (by cases m), rfl⟩ (fun i H' _ p => p.1 _ _ hD) ?_ ?_
  · rintro i x H' H2 hi ⟨sm, us, h1, h2, h3⟩ ⟨rfl, k, v, q, e, rfl, hq⟩
    obtain ⟨y, hy, ek⟩ := hK.at e
    rw [ek] at hq
    have ul : us.length = i := by
      have z := congrArg List.length h3
      rw [List.length_map, List.length_take] at z
      omega
    refine hs q y _ _ _ hq ⟨_, h1, ?_, mutS sm nD, us ++ [(q, y)], ?_, ?_, ?_⟩
    · rw [List.length_map]
      omega
    · rw [upd_same, List.map_append]
      rfl
    · intro u m
      have off : ∀ z : Addr × Pr, H2 z.1 = some (.tup [.int z.2.1, .int z.2.2]) → upd H2 D (.lst ((us.map fun t => V.ref t.1) ++ [V.ref q])) z.1 = some (.tup [.int z.2.1, .int z.2.2]) := fun z g => by
        rw [upd_ne (fun e => ?_)]
        · exact g
        · rw [e, h1] at g
          cases g
      rcases List.mem_append.mp m with m | m
      · exact off u (h2 u m)
      · rw [List.mem_singleton.mp m]
        exact off (q, y) hq
    · rw [List.map_append, h3, take_next hy]
      rfl
  · rintro H' ⟨sm, us, h1, h2, h3⟩
    refine hd H' sm ⟨us, h1, h2, ?_⟩
    rw [h3, List.take_of_length_le (by omega)]
/-- such a list outlives a change of an object that is no tuple and not the list -/
theorem Cells.mut {H : Hp} {l d : Addr} {ps : List Pr} {o : HO} (h : Cells H l ps) (ne : l ≠ d) (nt : ∀ xs, H d ≠ some (.tup xs)) : Cells (upd H d o) l ps := by
  obtain ⟨ts, h1, h2, h3⟩ := h
  refine ⟨ts, by rw [upd_ne ne]; exact h1, fun t m => ?_, h3⟩
  rw [upd_ne (fun e => nt _ (e ▸ h2 t m))]
  exact h2 t m
theorem cells_mk {H : Hp} {l : Addr} (us : List (Addr × Pr)) (h : H l = some (.lst (us.map fun t => V.ref t.1))) (ht : ∀ u ∈ us, H u.1 = some (.tup [.int u.2.1, .int u.2.2])) : Cells H l (us.map (·.2)) := ⟨us, h, ht, rfl⟩
def cutT {α : Type} (ts : List α) (lo hi : Option Int) : List α := (ts.drop (HT.sIx ts.length 0 lo)).take (HT.sIx ts.length ts.length hi - HT.sIx ts.length 0 lo)
theorem cutV_map {α : Type} (f : α → V) (ts : List α) (lo hi : Option Int) : cutV (ts.map f) lo hi = (cutT ts lo hi).map f := by
  unfold cutV cutT
  rw [List.length_map, List.map_take, List.map_drop]
theorem cutT_mem {α : Type} {ts : List α} {lo hi : Option Int} {x : α} (h : x ∈ cutT ts lo hi) : x ∈ ts := List.mem_of_mem_drop (List.mem_of_mem_take h)
theorem cutT_len {α : Type} (ts : List α) (lo hi : Option Int) : (cutT ts lo hi).length ≤ ts.length := by
  unfold cutT
  rw [List.length_take, List.length_drop]
  omega
theorem eq_cells {l m : List Pr} (h : l = m) : V.bl (PyData.eqv (.list (l.map pd)) (.list (m.map pd))) = V.bl true := by
  rw [eqv_cells, decide_eq_true h]
theorem ne_cells {l m : List Pr} (h : l = m) : V.bl (!PyData.eqv (.list (l.map pd)) (.list (m.map pd))) = V.bl false := by
  rw [eqv_cells, decide_eq_true h] <;> rfl
theorem pw_map {f : Pr → Pr} (hf : ∀ x y, ltP x y → ltP (f x) (f y)) {l : List Pr} (h : l.Pairwise ltP) : (l.map f).Pairwise ltP := List.pairwise_map.mpr (h.imp fun {x y} q => hf x y q)
theorem nodup_map {f : Pr → Pr} (hf : ∀ x y, f x = f y → x = y) {l : List Pr} (h : l.Nodup) : (l.map f).Nodup := List.pairwise_map.mpr (h.imp fun {x y} q e => q (hf x y e))
theorem mem_map2 {f : Pr → Pr} {l m : List Pr} (h : ∀ x, x ∈ l ↔ x ∈ m) (k : Pr) : k ∈ l.map f ↔ k ∈ m.map f := by
  rw [List.mem_map, List.mem_map]
  exact ⟨fun ⟨x, m1, e⟩ => ⟨x, (h x).mp m1, e⟩, fun ⟨x, m1, e⟩ => ⟨x, (h x).mpr m1, e⟩⟩
theorem wipe2 (σ : L2.St) (i j : Nat) (a b : Option V) : wipe (((wipe σ [i, j]).set i a).set j b) [i, j] = wipe σ [i, j] := by
  refine List.ext_getElem? fun k => ?_
  show ((((((σ.set j none).set i none).set i a).set j b).set j none).set i none)[k]? = ((σ.set j none).set i none)[k]?
  simp only [List.getElem?_set, List.length_set]
  by_cases e1 : i = k <;> by_cases e2 : j = k <;> by_cases e3 : k < σ.length <;> simp [e1, e2, e3]
end Vx
namespace Vx
open PySem PySem.Spec PyProof.Rows L2
section
variable {X : Cx}
/-- xs[j], read for xs[j] op= v -/
theorem pget_list : PGet X (fun o i H Q => ∃ p xs j v, o = .ref p ∧ i = .int ((j : Nat) : Int) ∧ SqL X.K H p xs ∧ xs[j]? = some v ∧ Q v H) := by
  intro pins s σ H o i ov iv Q I ro ri h
  obtain ⟨p, xs, j, v, rfl, rfl, hs, hv, q⟩ := h
  cases ro
  obtain ⟨t, rfl⟩ := ri
  obtain ⟨its, r, pl, hz⟩ := I.list hs
  obtain ⟨w, ew, rw'⟩ := r.get hv
  exact getItem_listL pl.isList (by omega) (by have := line63; have := (List.getElem?_eq_some_iff.mp hv).1; omega) (by simpa using ew) ⟨v, H, I, rw', q⟩
theorem ip_addS : PIp X .Add (fun x y H Q => ∃ i j, x = .str i ∧ y = .str j ∧ i.length + j.length ≤ sizeLine ∧ Q (.str (i ++ j)) H) := fun pins s σ H x y v u Q I r1 r2 h => iop_add_str pins s σ H x y v u Q I r1 r2 h
end
theorem lc_pairs {lo : Int} {n : Nat} {g : TG} {tt : TT} {te : TE} {vs : List Nat} {σ : L2.St} {H1 : Hp} {D : Addr} {Qd : Hp → Prop} (f : Nat → Pr) (nD : H1 D = none) (few : n < sizeLine)
    (hs : ∀ (i : Nat) (H' : Hp) (Po : V → Hp → Prop) (Pn : Hp → Prop), i < n → Same H1 H' → (∀ t2, H' t2 = none → Po (.ref t2) (upd H' t2 (.tup [.int (f i).1, .int (f i).2]))) →
      g (.int (lo + i)) (wipe σ vs) H' fun σ2 H2 => wipe σ2 vs = wipe σ vs ∧ tt σ2 H2 fun b H3 => if b = true then te σ2 H3 Po else Pn H3)
    (hd : ∀ (H' : Hp) (us : List (Addr × Pr)), Same H1 H' → H' D = some (.lst (us.map fun t => V.ref t.1)) → (∀ t ∈ us, H' t.1 = some (.tup [.int t.2.1, .int t.2.2])) → us.map (·.2) = (List.range n).map f → Qd H') :
    ∃ W : Nat → Nat → Hp → Prop, (∃ m, W 0 m (upd H1 D (.lst []))) ∧ ∀ i m H, W i m H →
      ((Itr lo n).stop i H ∧ Qd H) ∨ ((Itr lo n).go i H ∧ ∃ Nx : Hp → Prop, (∀ H', Nx H' → ∃ m', m' < m ∧ W (i + 1) m' H') ∧ ∀ x H', (Itr lo n).yld i H x H' → g x (wipe σ vs) H' fun σ2 H2 => wipe σ2 vs = wipe σ vs ∧ tt σ2 H2 fun b H3 =>
        if b = true then te σ2 H3 fun y H4 => ∃ acc, H4 D = some (.lst acc) ∧ acc.length < sizeLine ∧ Nx (upd H4 D (.lst (acc ++ [y]))) else Nx H3) := by
  refine lc_range (lo := lo) (n := n) (fun i H' => Same H1 H' ∧ ∃ us : List (Addr × Pr), H' D = some (.lst (us.map fun t => V.ref t.1)) ∧ (∀ t ∈ us, H' t.1 = some (.tup [.int t.2.1, .int t.2.2])) ∧ us.map (·.2) = (List.range i).map f)
    ⟨newS nD, [], upd_same, fun _ m => (by cases m), rfl⟩ ?_ ?_
  · rintro i H' hi ⟨sm, us, h1, h2, h3⟩
    have ul : us.length = i := by
      have z := congrArg List.length h3
      rw [List.length_map, List.length_map, List.length_range] at z
      exact z
    refine hs i H' _ _ hi sm fun t2 n2 => ⟨us.map fun t => V.ref t.1, newS n2 _ _ h1, ?_, mutS (sm.trans (newS n2)) nD, us ++ [(t2, f i)], ?_, ?_, ?_⟩
    · rw [List.length_map, ul]
      omega
    · rw [upd_same, List.map_append]
      rfl
    · have nD2 : t2 ≠ D := fun e => by
        rw [e, h1] at n2
        cases n2
      intro u m
      rcases List.mem_append.mp m with m | m
      · have z := h2 u m
        rw [upd_ne (fun e => ?_)]
        · exact newS n2 _ _ z
        · rw [e, h1] at z
          cases z
      · rw [List.mem_singleton.mp m, upd_ne nD2, upd_same]
    · rw [List.map_append, h3, List.range_succ, List.map_append]
      rfl
  · rintro H' ⟨sm, us, h1, h2, h3⟩
    exact hd H' us sm h1 h2 h3
/-- a pair in a list of pairs -/
theorem any_pd (p : Pr) : ∀ ps : List Pr, (ps.map pd).any (fun z => PyData.eqv z (pd p)) = decide (p ∈ ps)
  | [] => by simp
  | q :: ps => by
    rw [List.map_cons, List.any_cons, any_pd p ps, eqv_pd]
    by_cases e : q = p
    · subst e
      simp
    · have e2 : ¬ p = q := fun z => e z.symm
      simp [e, e2]
theorem shaped_pd (p : Pr) : SeqAt.shaped (pd p) = true := by
  unfold SeqAt.shaped pd
  simp [PyData.canLay0, PyData.canLayAll0, PyData.depth, PyData.depthAll]
theorem op_inP {X : Cx} (hu : X.A.units + 65 < cLine) : OpR X (compareOp .In) (fun x y H Q => ∃ (t a : Addr) (p : Pr) (ps : List Pr), x = .ref t ∧ y = .ref a ∧ H t = some (.tup [.int p.1, .int p.2]) ∧ Cells H a ps ∧ Q (.bl (decide (p ∈ ps))) H) := by
  intro pins s σ H x y v u Q I rx ry h
  obtain ⟨t, a, p, ps, rfl, rfl, ht, hc, q⟩ := h
  refine op_inD hu pins s σ H _ _ v u Q I rx ry ⟨pd p, ps.map pd, .tup (tup_of ht) (.cons (.int _) (.cons (.int _) .nil)), dp_cells hc, shaped_pd p, shaped_cells ps, ?_⟩
  rw [any_pd]
  exact q
/-- sorted, of a list of pairs that may hold one several times -/
theorem cr_sortedN {X : Cx} : CallR X (.builtin "sorted") (fun xs H Q => ∃ l ps, xs = [V.ref l] ∧ Cells H l ps ∧
    ∀ p H' qs, Same H H' → H p = none → Cells H' p qs → qs.Perm ps → qs.Pairwise (fun x y => ¬ ltP y x) → Q (.ref p) H') := by
  intro pins s σ H xs us Q I r h
  obtain ⟨l, ps, rfl, ⟨ts, hl, ht, rfl⟩, q⟩ := h
  refine cr_sortedPO pins s σ H [V.ref l] us Q I r ⟨l, ts.map fun t => V.ref t.1, kH H, rfl, lst_of hl, fun x m => ?_, fun ys p srt stb n => ?_⟩
  · obtain ⟨t, m1, rfl⟩ := List.mem_map.mp m
    have g := ht t m1
    refine ⟨t.1, rfl, ?_⟩
    rw [kH_at g]
    exact g
  · have own : ∀ y ∈ ys, ∃ t ∈ ts, y = V.ref t.1 := fun y m => by
      obtain ⟨t, m1, e⟩ := List.mem_map.mp (stb.perm.mem_iff.mp m)
      exact ⟨t, m1, e.symm⟩
    have key : ∀ t ∈ ts, kH H (.ref t.1) = t.2 := fun t m => kH_at (ht t m)
    have pm : (ys.map (kH H)).Perm (ts.map (·.2)) := by
      have z := stb.perm.map (kH H)
      rw [List.map_map] at z
      rw [show ts.map (·.2) = ts.map (kH H ∘ fun t => V.ref t.1) from List.map_congr_left fun t m => (key t m).symm]
      exact z
    have sm : Same H (upd H p (.lst ys)) := newS n
    have eo : (ys.map fun v => (adV v, kH H v)).map (fun t => V.ref t.1) = ys := by
      rw [List.map_map]
      refine (List.map_congr_left fun v m => ?_).trans (List.map_id _)
      obtain ⟨t, _, rfl⟩ := own v m
      rfl
    refine q p _ (ys.map (kH H)) sm n ⟨ys.map fun v => (adV v, kH H v), ?_, fun u m => ?_, ?_⟩ pm ?_
    · rw [eo, upd_same]
    · obtain ⟨v, m1, rfl⟩ := List.mem_map.mp m
      obtain ⟨t, m2, rfl⟩ := own v m1
      refine sm _ _ ?_
      show H t.1 = _
      rw [key t m2]
      exact ht t m2
    · rw [List.map_map]
      rfl
    · refine List.pairwise_map.mpr (srt.imp fun {u v} h z => ?_)
      have h : SrtO.lexB (kH H v) (kH H u) = false := h
      have z : SrtO.lexB (kH H v) (kH H u) = true := z
      rw [h] at z
      cases z
end Vx
namespace Vx
open PySem PySem.Spec PyProof.Rows L2
/-! ### the items of a dict whose keys are tuples -/
section
variable {X : Cx} {pins : List (Addr × Obj)} {σ : L2.St} {H : Hp} {s : Shared} {d : Addr} {o : Obj}
theorem frzT2 {kvs : List (List L2.Key × V)} (I : Inv X pins σ H s) (h : H d = some (.frz o (.dT kvs))) :
    (d == sysModules) = false ∧ s.heap.get? d = some o ∧ o.ExactDict ∧ ∃ (es : Array DictEntry) (ep : Nat), o.data = .dict es ep ∧ es.size = kvs.length ∧
      ∀ (i : Nat) (k : List L2.Key) (v : V), kvs[i]? = some (k, v) → ∃ (en : DictEntry) (q : Addr), es[i]? = some en ∧ en.key = .ref q ∧ H q = some (.tup (k.map kV)) ∧ RelV v en.val := by
  obtain ⟨hd, z, hs, xs, pr, o', es, ep, ho, hx, hdt, he, _⟩ := I.hok d _ h
  have eo : o = o' := Option.some.inj (hd.symm.trans ho)
  subst eo
  refine ⟨hs, hd, hx, es, ep, hdt, (size_of_entries he).trans (Paired.length pr).symm, fun i k v e => ?_⟩
  obtain ⟨b, hb, _, e2, e3⟩ := paired_get pr e
  refine ⟨entryOfKey (tupleKind (mixKind X.prog X.w)) b, b.2.1, ?_, rfl, e2, e3⟩
  rw [entry_at he i, hb]
  rfl
end
/-- its items, each a new pair of the key's tuple and the value -/
def ItiT (d : Addr) (o : Obj) (kvs : List (List L2.Key × V)) : It where
  go i H := H d = some (.frz o (.dT kvs)) ∧ i < kvs.length
  yld i H x H' := ∃ (T : Addr) (k : List L2.Key) (v : V) (q : Addr), kvs[i]? = some (k, v) ∧ x = .ref T ∧ H q = some (.tup (k.map kV)) ∧ H T = none ∧ H' = upd H T (.tup [.ref q, v])
  stop i H := H d = some (.frz o (.dT kvs)) ∧ kvs.length ≤ i
section
variable {P : Program} {w : World} {K : PySem.W.Frag} {d : Addr} {o : Obj} {es : Array DictEntry} {ep : Nat}
theorem turn_itemsT {kvs : List (List L2.Key × V)} {elts : List Expr} {kk : Nat} {tpos : Pos} (it : Addr) (hod : o.data = .dict es ep) :
    Turn P w K (.Tuple elts kk tpos) (ItiT d o kvs) [it] it (fun i h => ∃ ok ov, IsItemIter h it d i kvs.length ep ok ov) where
  mem := List.mem_singleton.mpr rfl
  obj := fun i h st b hb => by
    obtain ⟨ok, ov, e⟩ := st
    rw [List.mem_singleton.mp hb]
    exact ⟨_, e, fun v z => nomatch z⟩
  keep := fun i h h' st k => by
    obtain ⟨ok, ov, e⟩ := st
    exact ⟨ok, ov, k it (List.mem_singleton.mpr rfl) _ e⟩
  item := by
    intro X hP hw hK hc i pins s σ H E I hf st hg
    subst hP hw hK
    obtain ⟨hd, hi⟩ := hg
    obtain ⟨hs, hgd, hx, es', ep', hdt, hsz, ent⟩ := frzT2 I hd
    obtain ⟨rfl, rfl⟩ := dict_ep hod hdt
    obtain ⟨⟨k, v⟩, hkv⟩ : ∃ p, kvs[i]? = some p := ⟨kvs[i], List.getElem?_eq_getElem hi⟩
    obtain ⟨en, q, hen, hkey, hq, rv⟩ := ent i k v hkv
    obtain ⟨ok, ov, he⟩ := st
    have hlt : it < s.heap.objs.size := Heap.lt_size he
    have hi' : i < es'.size := by
      rw [hsz]
      exact hi
    have een : es'[i] = en := by
      rw [Array.getElem?_eq_getElem hi'] at hen
      exact Option.some.inj hen
    rw [← hsz] at he
    refine DT.nextI he ⟨o, hgd, hx, hdt⟩ hi' fun h' ho hT hz hk => ?_
    rw [een, hkey] at ho hT
    refine ⟨_, rfl, wpAny_letOwnedTupleGo_items (s := { s with heap := h' }) ho fun h'' he' sb => ?_⟩
    have hT2 : h''.get? s.heap.objs.size = some { cls := .type "tuple", data := .seq #[.ref q, en.val] } := (sb.2 _ (Nat.ne_of_gt hlt)).trans hT
    have new : ObjOk X.prog X.w (upd H s.heap.objs.size (.tup [.ref q, v])) h'' s.heap.objs.size (.tup [.ref q, v]) :=
      ⟨by show 2 ≤ sizeLine; decide, [.ref q, en.val], .cons rfl (.cons rv .nil), ⟨_, hT2, rfl, _, rfl⟩⟩
    have I1 : Inv X pins σ (upd H s.heap.objs.size (.tup [.ref q, v])) { s with heap := h'' } :=
      I.turnedNew (t' := s.toks) (ch := [it]) (fun b ob hb e => (sb.2 b (by simpa using hb)).trans (hk b ob (by simpa using hb) e)) hf (Nat.le_refl _) new
    refine ⟨.ref s.heap.objs.size, _, I1, rfl, ⟨_, k, v, q, hkv, rfl, hq, I.hok.fresh (Nat.le_refl _), rfl⟩, ⟨.ref q, en.val, ?_⟩, fun b hb => ?_⟩
    · rw [← hsz]
      exact he'
    · rw [List.mem_singleton.mp hb, upd_ne (Nat.ne_of_lt hlt)]
      exact (hf it (List.mem_singleton.mpr rfl)).1
  done := by
    intro X hP hw hK hc i pins s σ H E I hf st hg
    subst hP hw hK
    obtain ⟨hd, hi⟩ := hg
    obtain ⟨f0, f1, f2, f3, f4, f5⟩ := hf it (List.mem_singleton.mpr rfl)
    obtain ⟨hs, hgd, hx, es', ep', hdt, hsz, ent⟩ := frzT2 I hd
    obtain ⟨rfl, rfl⟩ := dict_ep hod hdt
    obtain ⟨ok, ov, he⟩ := st
    rw [← hsz] at he
    exact DT.endI (I.ok.hd hc) he ⟨o, hgd, hx, hdt⟩ (by omega) fun h' eb => ⟨rfl, I.turned (t' := s.toks) (fun b ob hb e => eb b ob hb e) f0 f1 f3 f4 f5⟩
  self := fun A i s Q E st h => by
    obtain ⟨_, _, e⟩ := st
    exact PySem.W.kcp_self e h
end
def iItemsT (td : TE) : TI := fun σ H R => td σ H fun x H1 => ∃ d o kvs, x = .ref d ∧ H1 d = some (.frz o (.dT kvs)) ∧ R (ItiT d o kvs) H1
theorem pi_itemsT {X : Cx} {e : Expr} {td : TE} {apos cpos tpos : Pos} {elts : List Expr} {kk : Nat} (he : PE X e td) (hbase : attributeBase e "items" X.env (eval e X.env) = eval e X.env := by rfl) (hline : (apos.endLine == cpos.line) = true := by rfl) :
    PI X (.Tuple elts kk tpos) (.Call (.Attribute e "items" apos) [] [] cpos) (iItemsT td) := by
  refine ⟨fun pins s σ H R I h => ?_⟩
  refine wpAny_Call_method (T := "dict") (id := "dict.items") hbase rfl hline F.plainAttrs_dict F.slot_dict_items F.type_dict_items (thn (he.run pins s σ H _ I h) fun u s1 ⟨x, H1, I1, rx, d, o, kvs, ex, hd, q⟩ => ?_)
  subst ex
  obtain rfl : u = Value.ref d := rx
  obtain ⟨hs, hgd, hx, es, ep, hdt, hsz, ent⟩ := frzT2 I1 hd
  have raw : DT.Raw s1.heap d es ep := ⟨o, hgd, hx, hdt⟩
  refine ⟨raw.typeIs, (fun a ea => by cases ea; exact ⟨o, hgd, hx.2.1⟩), ?_⟩
  have I2 : Inv X pins σ H1 { s1 with heap := s1.heap.push { cls := .type "dict_items", data := .fields #[.ref d] } } := I1.kept (t' := s1.toks) fun b ob q => Heap.get?_push_of_some _ q
  have fin : wpAny (model X.prog X.w) X.A (pyIter (.ref s1.heap.objs.size)) (PIE X pins σ (.Tuple elts kk tpos) R) X.xe { s1 with heap := s1.heap.push { cls := .type "dict_items", data := .fields #[.ref d] } } := by
    refine DT.iterI (d := d) (es := es) (ep := ep) ⟨_, Heap.get?_push_size _ rfl, rfl, rfl⟩ (raw.push _) (pi_one (tk := s1.toks) I2 _ (turn_itemsT _ hdt) ⟨.none, .none, ?_⟩ q)
    rw [hsz]
    exact Heap.get?_push_size _ rfl
  show wpAny _ _ (callWith cpos (.builtin "dict.items") [.ref d] [] []) _ X.xe s1
  exact method_meetsIn F.slot_dict_items F.entry_dict_items rfl (PySem.evalArgs_none ⟨rfl, raw.typeIs, F.args_dict_items_1 _, _, DT.meetsItems (es := es) (ep := ep) hs, ⟨raw, fin⟩⟩)
theorem walk_itemsT {d : Addr} {o : Obj} {kvs : List (List L2.Key × V)} : Walk (ItiT d o kvs) kvs.length (fun H => H d = some (.frz o (.dT kvs)))
    (fun i H x H' => ∃ (T : Addr) (k : List L2.Key) (v : V) (q : Addr), kvs[i]? = some (k, v) ∧ x = .ref T ∧ H q = some (.tup (k.map kV)) ∧ H T = none ∧ H' = upd H T (.tup [.ref q, v])) :=
  ⟨fun _ _ hi q => ⟨q, hi⟩, fun _ q => ⟨q, Nat.le_refl _⟩, fun _ _ _ _ _ _ y => y⟩
end Vx
namespace Vx
open PySem PySem.Spec PyProof.Rows L2
/-! ### bits of numbers from 0 on -/
theorem xor_and_add : ∀ a b : Nat, (a ^^^ b) + 2 * (a &&& b) = a + b := by
  intro a
  induction a using Nat.strongRecOn with
  | _ a ih =>
    intro b
    by_cases h : a = 0
    · subst h
      simp
    · have e := ih (a / 2) (by omega) (b / 2)
      have x1 : (a ^^^ b) / 2 = (a / 2) ^^^ (b / 2) := Nat.xor_div_two
      have x2 : (a &&& b) / 2 = (a / 2) &&& (b / 2) := Nat.and_div_two
      have t1 := Nat.testBit_xor a b 0
      have t2 := Nat.testBit_and a b 0
      rw [Nat.testBit_zero, Nat.testBit_zero, Nat.testBit_zero] at t1 t2
      have y1 : (a ^^^ b) % 2 = (a % 2 + b % 2) % 2 := by
        by_cases p : a % 2 = 1 <;> by_cases q : b % 2 = 1
        · rw [decide_eq_true p, decide_eq_true q] at t1
          have := of_decide_eq_false t1
          omega
        · rw [decide_eq_true p, decide_eq_false q] at t1
          have := of_decide_eq_true t1
          omega
        · rw [decide_eq_false p, decide_eq_true q] at t1
          have := of_decide_eq_true t1
          omega
        · rw [decide_eq_false p, decide_eq_false q] at t1
          have := of_decide_eq_false t1
          omega
      have y2 : (a &&& b) % 2 = if a % 2 = 1 ∧ b % 2 = 1 then 1 else 0 := by
        by_cases p : a % 2 = 1 <;> by_cases q : b % 2 = 1
        · rw [decide_eq_true p, decide_eq_true q] at t2
          rw [if_pos ⟨p, q⟩]
          exact of_decide_eq_true t2
        · rw [decide_eq_true p, decide_eq_false q] at t2
          rw [if_neg fun z => q z.2]
          have := of_decide_eq_false t2
          omega
        · rw [decide_eq_false p, decide_eq_true q] at t2
          rw [if_neg fun z => p z.1]
          have := of_decide_eq_false t2
          omega
        · rw [decide_eq_false p, decide_eq_false q] at t2
          rw [if_neg fun z => p z.1]
          have := of_decide_eq_false t2
          omega
      have z1 := Nat.div_add_mod (a ^^^ b) 2
      have z2 := Nat.div_add_mod (a &&& b) 2
      rw [x1, y1] at z1
      rw [x2, y2] at z2
      by_cases p : a % 2 = 1 ∧ b % 2 = 1
      · rw [if_pos p] at z2
        omega
      · rw [if_neg p] at z2
        omega
theorem or_and_xor (a b : Nat) : (a ||| b) = (a ^^^ b) + (a &&& b) := by
  have d : (a ^^^ b) &&& (a &&& b) = 0 := by
    refine Nat.eq_of_testBit_eq fun i => ?_
    simp only [Nat.testBit_and, Nat.testBit_xor, Nat.zero_testBit]
    cases a.testBit i <;> cases b.testBit i <;> rfl
  have e := xor_and_add (a ^^^ b) (a &&& b)
  rw [d] at e
  have f : (a ^^^ b) ^^^ (a &&& b) = a ||| b := by
    refine Nat.eq_of_testBit_eq fun i => ?_
    simp only [Nat.testBit_and, Nat.testBit_xor, Nat.testBit_or]
    cases a.testBit i <;> cases b.testBit i <;> rfl
  omega
theorem bAnd (a b : Nat) : Builtin.bitAnd (a : Int) (b : Int) = ((a &&& b : Nat) : Int) := PySem.W.os_band a b
theorem bOr (a b : Nat) : Builtin.bitOr (a : Int) (b : Int) = ((a ||| b : Nat) : Int) := by
  rw [bitOr_nn (Int.natCast_nonneg a) (Int.natCast_nonneg b), Int.toNat_natCast, Int.toNat_natCast]
theorem bXor (a b : Nat) : Builtin.bitXor (a : Int) (b : Int) = ((a ^^^ b : Nat) : Int) := by
  show Builtin.bitOr (a : Int) (b : Int) - Builtin.bitAnd (a : Int) (b : Int) = _
  rw [bAnd, bOr, or_and_xor]
  omega
section
variable {X : Cx}
theorem op_andNN : OpR X (binaryOp .BitAnd) (fun x y H Q => ∃ a b : Nat, x = .int (a : Int) ∧ y = .int (b : Int) ∧ Q (.int ((a &&& b : Nat) : Int)) H) := by
  intro pins s σ H x y v u Q I r1 r2 h
  obtain ⟨a, b, rfl, rfl, q⟩ := h
  exact op_and pins s σ H _ _ v u Q I r1 r2 ⟨_, _, rfl, rfl, (by show Q (V.int (Builtin.bitAnd (a : Int) (b : Int))) H; rw [bAnd]; exact q)⟩
theorem op_orNN : OpR X (binaryOp .BitOr) (fun x y H Q => ∃ a b : Nat, x = .int (a : Int) ∧ y = .int (b : Int) ∧ Q (.int ((a ||| b : Nat) : Int)) H) := by
  intro pins s σ H x y v u Q I r1 r2 h
  obtain ⟨a, b, rfl, rfl, q⟩ := h
  exact op_or pins s σ H _ _ v u Q I r1 r2 ⟨_, _, rfl, rfl, (by show Q (V.int (Builtin.bitOr (a : Int) (b : Int))) H; rw [bOr]; exact q)⟩
theorem op_xorNN : OpR X (binaryOp .BitXor) (fun x y H Q => ∃ a b : Nat, x = .int (a : Int) ∧ y = .int (b : Int) ∧ Q (.int ((a ^^^ b : Nat) : Int)) H) := by
  intro pins s σ H x y v u Q I r1 r2 h
  obtain ⟨a, b, rfl, rfl, q⟩ := h
  exact op_xor pins s σ H _ _ v u Q I r1 r2 ⟨_, _, rfl, rfl, (by show Q (V.int (Builtin.bitXor (a : Int) (b : Int))) H; rw [bXor]; exact q)⟩
theorem ip_orNN : PIp X .BitOr (fun x y H Q => ∃ a b : Nat, x = .int (a : Int) ∧ y = .int (b : Int) ∧ Q (.int ((a ||| b : Nat) : Int)) H) := by
  intro pins s σ H x y v u Q I r1 r2 h
  obtain ⟨a, b, rfl, rfl, q⟩ := h
  exact iop_or pins s σ H _ _ v u Q I r1 r2 ⟨_, _, rfl, rfl, (by show Q (V.int (Builtin.bitOr (a : Int) (b : Int))) H; rw [bOr]; exact q)⟩
theorem ip_xorNN : PIp X .BitXor (fun x y H Q => ∃ a b : Nat, x = .int (a : Int) ∧ y = .int (b : Int) ∧ Q (.int ((a ^^^ b : Nat) : Int)) H) := by
  intro pins s σ H x y v u Q I r1 r2 h
  obtain ⟨a, b, rfl, rfl, q⟩ := h
  exact iop_xor pins s σ H _ _ v u Q I r1 r2 ⟨_, _, rfl, rfl, (by show Q (V.int (Builtin.bitXor (a : Int) (b : Int))) H; rw [bXor]; exact q)⟩
theorem op_shrNN : OpR X (binaryOp .RShift) (fun x y H Q => ∃ a k : Nat, x = .int (a : Int) ∧ y = .int (k : Int) ∧ Q (.int ((a >>> k : Nat) : Int)) H) := by
  intro pins s σ H x y v u Q I r1 r2 h
  obtain ⟨a, k, rfl, rfl, q⟩ := h
  refine op_shrN pins s σ H _ _ v u Q I r1 r2 ⟨_, k, rfl, rfl, ?_⟩
  rw [show (a : Int) / 2 ^ k = ((a >>> k : Nat) : Int) by rw [Nat.shiftRight_eq_div_pow]; exact (by push_cast; rfl)]
  exact q
theorem op_shlNN : OpR X (binaryOp .LShift) (fun x y H Q => ∃ (a k n : Nat), x = .int (a : Int) ∧ y = .int (k : Int) ∧ a < 2 ^ n ∧ n + k ≤ 134217728 ∧ Q (.int ((a <<< k : Nat) : Int)) H) := by
  intro pins s σ H x y v u Q I r1 r2 h
  obtain ⟨a, k, n, rfl, rfl, la, lk, q⟩ := h
  refine op_shlN pins s σ H _ _ v u Q I r1 r2 ⟨_, k, rfl, rfl, shl_ok (n := n) la lk, ?_⟩
  rw [show (a : Int) * 2 ^ k = ((a <<< k : Nat) : Int) by rw [Nat.shiftLeft_eq]; exact (by push_cast; rfl)]
  exact q
end
/-! ### the bits that are set, ascending -/
def bitsB (N n : Nat) : List Nat := (List.range N).filter fun j => n.testBit j
theorem mem_bitsB {N n j : Nat} : j ∈ bitsB N n ↔ j < N ∧ n.testBit j = true := by
  unfold bitsB
  rw [List.mem_filter, List.mem_range]
theorem low_bit : ∀ n : Nat, n ≠ 0 → ∃ k a, n = 2 ^ k * (2 * a + 1) := by
  intro n
  induction n using Nat.strongRecOn with
  | _ n ih =>
    intro h
    by_cases e : n % 2 = 1
    · exact ⟨0, n / 2, by omega⟩
    · obtain ⟨k, a, q⟩ := ih (n / 2) (by omega) (by omega)
      refine ⟨k + 1, a, ?_⟩
      have : n = 2 * (n / 2) := by omega
      rw [this, q, Nat.pow_succ, Nat.mul_comm (2 ^ k) 2, Nat.mul_assoc]
theorem low_test {k a j : Nat} : (2 ^ k * (2 * a + 1)).testBit j = (decide (j = k) || (decide (k < j) && (2 ^ k * (2 * a)).testBit j)) := by
  rw [Nat.testBit_two_pow_mul, Nat.testBit_two_pow_mul]
  by_cases h : k ≤ j
  · by_cases e : j = k
    · subst e
      simp [Nat.testBit_zero]
    · have e2 : k < j := by omega
      have e3 : j - k = (j - k - 1) + 1 := by omega
      rw [e3, Nat.testBit_succ, Nat.testBit_succ]
      have e4 : (2 * a + 1) / 2 = 2 * a / 2 := by omega
      rw [e4]
      simp [h, e, e2]
  · have e : j ≠ k := by omega
    have e2 : ¬ k < j := by omega
    simp [h, e, e2]
theorem low_xor (k a : Nat) : 2 ^ k * (2 * a + 1) ^^^ 2 ^ k = 2 ^ k * (2 * a) := by
  refine Nat.eq_of_testBit_eq fun j => ?_
  rw [Nat.testBit_xor, low_test, Nat.testBit_two_pow]
  by_cases e : k = j
  · subst e
    simp [Nat.testBit_two_pow_mul, Nat.testBit_zero]
  · have e' : j ≠ k := fun z => e z.symm
    simp only [e, e', decide_false, Bool.false_or, Bool.xor_false]
    by_cases h : k < j
    · simp [h]
    · have : ¬ k ≤ j := by omega
      simp [h, this, Nat.testBit_two_pow_mul]
theorem bits_low {N k a : Nat} (h : 2 ^ k * (2 * a + 1) < 2 ^ N) : bitsB N (2 ^ k * (2 * a + 1)) = k :: bitsB N (2 ^ k * (2 * a)) := by
  have hk : k < N := by
    have : 2 ^ k < 2 ^ N := Nat.lt_of_le_of_lt (Nat.le_mul_of_pos_right _ (by omega)) h
    exact (Nat.pow_lt_pow_iff_right (by decide)).mp this
  have e : List.range N = List.range k ++ k :: (List.range (N - k - 1)).map (fun j => k + 1 + j) := by
    have e1 := List.range_add (n := k) (m := N - k)
    rw [show k + (N - k) = N by omega] at e1
    rw [e1, show N - k = (N - k - 1) + 1 by omega, List.range_succ_eq_map, List.map_cons, List.map_map]
    simp
    intro j _
    omega
  have z : ∀ m, (List.range k).filter (fun j => (2 ^ k * m).testBit j) = [] := fun m => by
    refine List.filter_eq_nil_iff.mpr fun j hj => ?_
    have := List.mem_range.mp hj
    rw [Nat.testBit_two_pow_mul]
    have : ¬ k ≤ j := by omega
    simp [this]
  unfold bitsB
  rw [e, List.filter_append, List.filter_append, z, z, List.nil_append, List.nil_append, List.filter_cons, List.filter_cons]
  rw [if_pos (by rw [low_test]; simp), if_neg (by rw [Nat.testBit_two_pow_mul]; simp [Nat.testBit_zero])]
  refine congrArg _ (List.filter_congr fun j hj => ?_)
  obtain ⟨i, _, rfl⟩ := List.mem_map.mp hj
  rw [low_test]
  have e1 : ¬ k + 1 + i = k := by omega
  have e2 : k < k + 1 + i := by omega
  simp [e1, e2]
theorem bits_zero (N : Nat) : bitsB N 0 = [] := by
  unfold bitsB
  exact List.filter_eq_nil_iff.mpr fun j _ => by simp
theorem low_and (k a : Nat) : Builtin.bitAnd ((2 ^ k * (2 * a + 1) : Nat) : Int) (-((2 ^ k * (2 * a + 1) : Nat) : Int)) = ((2 ^ k : Nat) : Int) := by
  have e := PySem.W.kbt_low k (a : Int)
  push_cast
  exact e
theorem intBits_pow (k : Nat) : Builtin.Int.intBits ((2 ^ k : Nat) : Int) = k + 1 := by
  unfold Builtin.Int.intBits
  have h : ¬ ((((2 ^ k : Nat) : Int)) == 0) = true := by
    have : 0 < 2 ^ k := Nat.two_pow_pos k
    simp only [beq_iff_eq]
    omega
  rw [if_neg h, Int.natAbs_natCast, Nat.log2_two_pow]
end Vx
namespace Vx
open PySem PySem.Spec PyProof.Rows L2
/-! ### dicts whose keys are pairs, told by the list of the keys and a function -/
def MapP (kvs : List (List L2.Key × V)) (ps : List Pr) (g : Pr → V) : Prop := kvs = ps.map (fun x => (keyP x, g x)) ∧ ps.Nodup
def addK (ps : List Pr) (x : Pr) : List Pr := if x ∈ ps then ps else ps ++ [x]
def setG (g : Pr → V) (x : Pr) (v : V) : Pr → V := fun y => if y = x then v else g y
theorem mem_addK {ps : List Pr} {x y : Pr} : y ∈ addK ps x ↔ y ∈ ps ∨ y = x := by
  unfold addK
  by_cases h : x ∈ ps
  · rw [if_pos h]
    exact ⟨.inl, fun q => q.elim id fun e => e ▸ h⟩
  · rw [if_neg h, List.mem_append, List.mem_singleton]
theorem addK_len {ps : List Pr} {x : Pr} : (addK ps x).length ≤ ps.length + 1 := by
  unfold addK
  by_cases h : x ∈ ps
  · rw [if_pos h]
    omega
  · rw [if_neg h, List.length_append]
    exact Nat.le_refl _
theorem addK_new {ps : List Pr} {x : Pr} (h : x ∉ ps) : addK ps x = ps ++ [x] := if_neg h
theorem addK_old {ps : List Pr} {x : Pr} (h : x ∈ ps) : addK ps x = ps := if_pos h
theorem MapP.nil (g : Pr → V) : MapP [] [] g := ⟨rfl, List.nodup_nil⟩
theorem MapP.keys {kvs : List (List L2.Key × V)} {ps : List Pr} {g : Pr → V} (h : MapP kvs ps g) : KeysP kvs ps := by
  refine ⟨?_, h.2⟩
  rw [h.1, List.map_map]
  rfl
theorem MapP.len {kvs : List (List L2.Key × V)} {ps : List Pr} {g : Pr → V} (h : MapP kvs ps g) : kvs.length = ps.length := by rw [h.1, List.length_map]
theorem MapP.congr {kvs : List (List L2.Key × V)} {ps : List Pr} {g g' : Pr → V} (h : MapP kvs ps g) (e : ∀ x ∈ ps, g x = g' x) : MapP kvs ps g' := by
  refine ⟨?_, h.2⟩
  rw [h.1]
  exact List.map_congr_left fun x m => by rw [e x m]
theorem MapP.at {kvs : List (List L2.Key × V)} {ps : List Pr} {g : Pr → V} (h : MapP kvs ps g) {i : Nat} {k : List L2.Key} {v : V} (e : kvs[i]? = some (k, v)) : ∃ x, ps[i]? = some x ∧ k = keyP x ∧ v = g x := by
  rw [h.1, List.getElem?_map] at e
  cases q : ps[i]? with
  | none => rw [q] at e; cases e
  | some x =>
    rw [q] at e
    injection e with e
    injection e with e1 e2
    exact ⟨x, rfl, e1.symm, e2.symm⟩
theorem MapP.get {kvs : List (List L2.Key × V)} {ps : List Pr} {g : Pr → V} (h : MapP kvs ps g) (x : Pr) : valV kvs (keyP x) = if x ∈ ps then some (g x) else none := by
  rw [h.1]
  have go : ∀ qs : List Pr, valV (qs.map fun x => (keyP x, g x)) (keyP x) = if x ∈ qs then some (g x) else none := fun qs => by
    induction qs with
    | nil => rfl
    | cons y qs ih =>
      rw [List.map_cons]
      by_cases e : y = x
      · subst e
        rw [valV_pos rfl, if_pos List.mem_cons_self]
      · rw [valV_neg (fun z => e (keyP_inj z)), ih]
        have e' : ¬ x = y := fun z => e z.symm
        by_cases m : x ∈ qs <;> simp [m, e']
  exact go ps
theorem MapP.put {kvs : List (List L2.Key × V)} {ps : List Pr} {g : Pr → V} (h : MapP kvs ps g) (x : Pr) (v : V) : MapP (putK kvs (keyP x) v) (addK ps x) (setG g x v) := by
  have any : (kvs.any fun kv => decide (kv.1 = keyP x)) = decide (x ∈ ps) := by
    rw [valV_any, h.get]
    by_cases m : x ∈ ps <;> simp [m]
  unfold putK
  rw [any]
  by_cases m : x ∈ ps
  · rw [if_pos (decide_eq_true m), addK_old m]
    refine ⟨?_, h.2⟩
    rw [h.1, List.map_map]
    refine List.map_congr_left fun y _ => ?_
    show (if keyP y = keyP x then (keyP y, v) else (keyP y, g y)) = (keyP y, if y = x then v else g y)
    by_cases e : y = x
    · rw [if_pos (by rw [e]), if_pos e]
    · rw [if_neg fun z => e (keyP_inj z), if_neg e]
  · rw [if_neg (by simp [m]), addK_new m]
    refine ⟨?_, ?_⟩
    · rw [h.1, List.map_append]
      congr 1
      · refine List.map_congr_left fun y my => ?_
        have e : ¬ y = x := fun e => m (e ▸ my)
        show (keyP y, g y) = (keyP y, if y = x then v else g y)
        rw [if_neg e]
      · show [(keyP x, v)] = [(keyP x, if x = x then v else g x)]
        rw [if_pos rfl]
    · refine List.pairwise_append.mpr ⟨h.2, List.pairwise_cons.mpr ⟨fun _ m => (by cases m), List.Pairwise.nil⟩, fun a ma b mb e => ?_⟩
      rw [List.mem_singleton.mp mb] at e
      exact m (e ▸ ma)
theorem MapP.drop {kvs : List (List L2.Key × V)} {ps : List Pr} {g : Pr → V} (h : MapP kvs ps g) (x : Pr) : MapP (dropK kvs (keyP x)) (ps.filter fun y => decide (y ≠ x)) g := by
  refine ⟨?_, h.2.filter _⟩
  unfold dropK
  rw [h.1, List.filter_map]
  congr 1
  refine List.filter_congr fun y _ => ?_
  show decide (keyP y ≠ keyP x) = decide (y ≠ x)
  by_cases e : y = x
  · simp [e]
  · have : keyP y ≠ keyP x := fun z => e (keyP_inj z)
    simp [e, this]
/-- at d: such a dict -/
def Dct (H : Hp) (d : Addr) (ps : List Pr) (g : Pr → V) : Prop := ∃ kvs, H d = some (.dT kvs) ∧ MapP kvs ps g
theorem Dct.up {H H' : Hp} {d : Addr} {ps : List Pr} {g : Pr → V} (e : Same H H') (h : Dct H d ps g) : Dct H' d ps g := by
  obtain ⟨kvs, h1, h2⟩ := h
  exact ⟨kvs, e _ _ h1, h2⟩
theorem Dct.new {H : Hp} {d : Addr} (g : Pr → V) (h : H d = some (.dT [])) : Dct H d [] g := ⟨[], h, .nil g⟩
theorem Dct.ne {H : Hp} {d p : Addr} {ps : List Pr} {g : Pr → V} (h : Dct H d ps g) (n : H p = none) : p ≠ d := fun e => by
  obtain ⟨kvs, h1, _⟩ := h
  rw [e, h1] at n
  cases n
theorem Dct.isD {H : Hp} {d : Addr} {ps : List Pr} {g : Pr → V} (h : Dct H d ps g) : IsD H d := by
  obtain ⟨kvs, h1, _⟩ := h
  exact .inr ⟨kvs, .inl h1⟩
theorem Dct.dget {H : Hp} {d b : Addr} {ps : List Pr} {g : Pr → V} {x : Pr} (h : Dct H d ps g) (e : H b = some (.tup [.int x.1, .int x.2])) : DGet H d (.ref b) (if x ∈ ps then some (g x) else none) := by
  obtain ⟨kvs, h1, h2⟩ := h
  rw [← h2.get x]
  exact .t (k := keyP x) h1 e
/-- the answer of d.get(x, z) -/
def orG (ps : List Pr) (g : Pr → V) (z : V) (x : Pr) : V := if x ∈ ps then g x else z
theorem getD_or {ps : List Pr} {g : Pr → V} {z : V} {x : Pr} : (if x ∈ ps then some (g x) else none : Option V).getD z = orG ps g z x := by
  unfold orG
  by_cases h : x ∈ ps <;> simp [h]
/-- what stands elsewhere stays, d's dict grows -/
def PutAt (H : Hp) (d : Addr) (ps : List Pr) (g : Pr → V) (x : Pr) (v : V) (H' : Hp) : Prop := Dct H' d (addK ps x) (setG g x v) ∧ ∀ b, b ≠ d → H' b = H b
theorem Dct.dput {H : Hp} {d b : Addr} {ps : List Pr} {g : Pr → V} {x : Pr} (h : Dct H d ps g) (few : ps.length < sizeLine) (e : H b = some (.tup [.int x.1, .int x.2])) (v : V) : ∃ H', DPut H d (.ref b) v H' ∧ PutAt H d ps g x v H' := by
  obtain ⟨kvs, h1, h2⟩ := h
  exact ⟨_, .t (k := keyP x) h1 e (by rw [h2.len]; exact few), ⟨_, upd_same, h2.put x v⟩, fun b n => upd_ne n⟩
theorem PutAt.mut {H0 H H' : Hp} {d : Addr} {ps : List Pr} {g : Pr → V} {x : Pr} {v : V} (p : PutAt H d ps g x v H') (sm : Same H0 H) (n : H0 d = none) : Same H0 H' := fun b o e => by
  rw [p.2 b fun z => by rw [z, n] at e; cases e]
  exact sm b o e
theorem Dct.congr {H : Hp} {d : Addr} {ps : List Pr} {g g' : Pr → V} (h : Dct H d ps g) (e : ∀ x ∈ ps, g x = g' x) : Dct H d ps g' := by
  obtain ⟨kvs, h1, h2⟩ := h
  exact ⟨kvs, h1, h2.congr e⟩
theorem updS {H H' : Hp} {d : Addr} {o : HO} (e : Same H H') : Same (upd H d o) (upd H' d o) := fun b u h => by
  by_cases c : b = d
  · rw [c, upd_same] at h
    rw [c, upd_same]
    exact h
  · rw [upd_ne c] at h
    rw [upd_ne c]
    exact e b u h
theorem Dct.off {H : Hp} {d e : Addr} {ps : List Pr} {g : Pr → V} {o : HO} (h : Dct H d ps g) (n : d ≠ e) : Dct (upd H e o) d ps g := by
  obtain ⟨kvs, h1, h2⟩ := h
  exact ⟨kvs, by rw [upd_ne n]; exact h1, h2⟩
theorem nodup_next {α : Type} {ps : List α} {i : Nat} {x : α} (nd : ps.Nodup) (h : ps[i]? = some x) : x ∉ ps.take i := fun m => by
  obtain ⟨j, hj, e⟩ := List.getElem_of_mem m
  rw [List.length_take] at hj
  obtain ⟨li, ei⟩ := List.getElem?_eq_some_iff.mp h
  rw [List.getElem_take] at e
  have := (List.getElem_inj nd (h₀ := by omega) (h₁ := li)).mp (e.trans ei.symm)
  omega
theorem addK_take {ps : List Pr} {i : Nat} {x : Pr} (nd : ps.Nodup) (h : ps[i]? = some x) : addK (ps.take i) x = ps.take (i + 1) := by
  rw [addK_new (nodup_next nd h), take_next h]
theorem unlock {H H' : Hp} {d : Addr} {od : Obj} {u : HO} (hd : H d = some u) (sm : Same (upd H d (.frz od u)) H') : Same H (upd H' d u) := fun b o e => by
  by_cases c : b = d
  · rw [c] at e ⊢
    rw [hd] at e
    rw [upd_same]
    exact e
  · rw [upd_ne c]
    exact sm b o (by rw [upd_ne c]; exact e)
/-! ### the program's lists of such keys -/
theorem isKeys_cells {H : Hp} {p : Addr} : ∀ {kvs : List (List L2.Key × V)} {ps : List Pr} {g : Pr → V} {bs : List Addr}, MapP kvs ps g → IsKeys H kvs bs → H p = some (.lst (bs.map V.ref)) → Cells H p ps := by
  have go : ∀ (ps : List Pr) (g : Pr → V) (bs : List Addr), IsKeys H (ps.map fun x => (keyP x, g x)) bs → ∃ ts : List (Addr × Pr), bs.map V.ref = ts.map (fun t => V.ref t.1) ∧ (∀ t ∈ ts, H t.1 = some (.tup [.int t.2.1, .int t.2.2])) ∧ ts.map (·.2) = ps := by
    intro ps g
    induction ps with
    | nil =>
      intro bs h
      cases h
      exact ⟨[], rfl, fun _ m => (by cases m), rfl⟩
    | cons x ps ih =>
      intro bs h
      cases h with
      | @cons _ b _ bs h1 h2 =>
        obtain ⟨ts, a1, a2, a3⟩ := ih bs h2
        refine ⟨(b, x) :: ts, ?_, ?_, ?_⟩
        · rw [List.map_cons, List.map_cons, a1]
        · intro t m
          rcases List.mem_cons.mp m with e | m
          · rw [e]
            exact h1
          · exact a2 t m
        · rw [List.map_cons, a3]
  intro kvs ps g bs h k e
  rw [h.1] at k
  obtain ⟨ts, a1, a2, a3⟩ := go ps g bs k
  exact ⟨ts, by rw [e, a1], a2, a3⟩
theorem cr_listP {X : Cx} (hc : X.calm = true) : CallR X (.type "list") (fun xs H Q => ∃ d ps g, xs = [V.ref d] ∧ Dct H d ps g ∧ ∀ H' p, Same H H' → H p = none → Cells H' p ps → Q (.ref p) H') := by
  intro pins s σ H xs us Q I r h
  obtain ⟨d, ps, g, rfl, ⟨kvs, h1, h2⟩, q⟩ := h
  refine call_list_dT hc pins s σ H _ us Q I r ⟨d, kvs, rfl, .inl h1, fun p bs n k => q _ p (newS n) n ?_⟩
  refine isKeys_cells (bs := bs) h2 ?_ upd_same
  exact Paired.mapP k fun a b e => newS n _ _ e
theorem truC {K : PySem.W.Frag} {H : Hp} {l : Addr} {ps : List Pr} (h : Cells H l ps) : TruV K (.ref l) H (!ps.isEmpty) := by
  obtain ⟨ts, h1, _, rfl⟩ := h
  exact .inl ⟨_, lst_of h1, by cases ts <;> rfl⟩
/-- sorted(d) -/
theorem cr_sortedDT {X : Cx} (hcalm : X.calm = true) : CallR X (.builtin "sorted") (fun xs H Q => ∃ d ps g, xs = [V.ref d] ∧ Dct H d ps g ∧ ∀ p H' qs, Same H H' → H p = none → Cells H' p qs → CanP ps qs → qs.length = ps.length → Q (.ref p) H') := by
  intro pins s σ H xs us Q I r h
  obtain ⟨d, ps, g, rfl, ⟨kvs, hd, hm⟩, q⟩ := h
  obtain ⟨u, rfl, rx⟩ := r.one
  cases rx
  obtain ⟨z, hs, ks, prd, o, es, ep, ho, hx, hdt, he, hn⟩ := (show ObjOk X.prog X.w H s.heap d (.dT kvs) from (Rd.of hd).ok I.hok)
  have l1 : es.size = ks.length := size_of_entries he
  have l2 : kvs.length = ks.length := Paired.length prd
  have lim : es.size ≤ sizeLine := by omega
  refine Calls.call_function_entry kind_sorted plain_sorted entry_sorted (args_sorted1 _) ?_
  unfold Builtin.«sorted»
  refine wpAny_bind (m := checkCount "sorted" 1 1 _) (wpAny_pure ?_)
  refine wpAny_bind (PySem.W.kdu_collect (A := X.A.in1) (kdl_raw hs hx hdt) (I.ok.hd hcalm) ho lim fun h' tk acc kp it => ?_)
  -- the key tuples
  have keyAt : ∀ (i : Nat) (x : Pr), ps[i]? = some x → ∃ b, acc.toList[i]? = some (.ref b) ∧ H b = some (.tup [.int x.1, .int x.2]) := fun i x e => by
    have e1 : kvs[i]? = some (keyP x, g x) := by rw [hm.1, List.getElem?_map, e]; rfl
    obtain ⟨b, hb, _, e2, _⟩ := paired_get prd e1
    have q1 := entry_at he i
    rw [hb] at q1
    have li : i < acc.toList.length := by
      rw [Array.length_toList, it.1, l1]
      exact (List.getElem?_eq_some_iff.mp hb).1
    obtain ⟨en, q2, q3⟩ := it.2 i acc.toList[i] (by rw [← Array.getElem?_toList]; exact List.getElem?_eq_getElem li)
    rw [q1] at q2
    have q4 : entryOfKey (tupleKind (mixKind X.prog X.w)) b = en := Option.some.inj q2
    refine ⟨b.2.1, ?_, e2⟩
    rw [List.getElem?_eq_getElem li, q3, ← q4]
    rfl
  have al : acc.toList.length = ps.length := by rw [Array.length_toList, it.1, l1, ← l2, hm.len]
  have lacc : acc.toList.length ≤ sizeLine := by rw [Array.length_toList, it.1]; exact lim
  have I1 : Inv X pins σ H { s with heap := h', toks := tk } := I.kept kp
  refine wpAny_bind (wpAny_newList ?_ lacc)
  have gl : (h'.push (seqObj "list" acc.toList.toArray 0)).get? h'.objs.size = some (seqObj "list" acc.toList.toArray 0) := Heap.get?_push_size _ rfl
  show wpAny _ _ _ _ _ { s with heap := h'.push (seqObj "list" acc.toList.toArray 0), toks := tk }
  generalize hh1 : h'.push (seqObj "list" acc.toList.toArray 0) = h1 at gl ⊢
  generalize acc.toList = vs at *
  have keep1 : ∀ b u, h'.get? b = some u → h1.get? b = some u := fun b u e => by
    rw [← hh1]
    exact Heap.get?_push_of_some _ e
  have own : ∀ v ∈ vs, ∃ b x, v = .ref b ∧ H b = some (.tup [.int x.1, .int x.2]) ∧ (x : Pr) ∈ ps := fun v m => by
    obtain ⟨i, li, e⟩ := List.getElem_of_mem m
    have lp : i < ps.length := by omega
    obtain ⟨b, e1, e2⟩ := keyAt i ps[i] (List.getElem?_eq_getElem lp)
    rw [List.getElem?_eq_getElem li] at e1
    exact ⟨b, ps[i], by rw [← e]; exact Option.some.inj e1, e2, List.getElem_mem lp⟩
  have tin : ∀ b (x : Pr), H b = some (.tup [.int x.1, .int x.2]) → TS.TupInts h1 (.ref b) [x.1, x.2] := fun b x e => tupInts_of (P := X.prog) (w := X.w) (isT_keep (Inv.isT (k := [x.1, x.2]) I1 (tup_of e)) keep1)
  have key : ∀ b (x : Pr), H b = some (.tup [.int x.1, .int x.2]) → pr (TS.intsOf h1 (.ref b)) = x := fun b x e => by
    rw [(tin b x e).ints]
    rfl
  have isP : ∀ v ∈ vs, Srt.IsPair h1 v (pr (TS.intsOf h1 v)).1 (pr (TS.intsOf h1 v)).2 := fun v m => by
    obtain ⟨b, x, rfl, e, _⟩ := own v m
    rw [key b x e]
    have i := tin b x e
    obtain ⟨b2, items, eb, ⟨o1, go1, co1, n1, do1⟩, ia⟩ := i
    cases eb
    obtain ⟨xs⟩ := items
    cases ia with
    | cons _ t1 ia =>
      cases ia with
      | cons _ t2 ia =>
        cases ia
        exact ⟨_, o1, t1, t2, n1, rfl, go1, co1, do1⟩
  have mapK : vs.map (fun v => pr (TS.intsOf h1 v)) = ps := by
    refine List.ext_getElem? fun i => ?_
    rw [List.getElem?_map]
    by_cases li : i < ps.length
    · obtain ⟨b, e1, e2⟩ := keyAt i ps[i] (List.getElem?_eq_getElem li)
      rw [e1, List.getElem?_eq_getElem li]
      exact congrArg some (key b _ e2)
    · rw [List.getElem?_eq_none (by omega), List.getElem?_eq_none (by omega)]
      rfl
  refine wpAny_bind (wpAny_holding (wpAny_call_entry (s := { s with heap := h1, toks := tk }) slot_list_sort ⟨_, gl, rfl⟩ entry_list_sort (SrtO.list_sort_ord (s := { s with heap := h1, toks := tk }) (SrtO.swo_lex fun v => pr (TS.intsOf h1 v)) gl lacc (fun two => SrtO.pairs_sortableO (by omega) isP fun o1 e => ?_) fun out srt stb => ⟨_, rfl, ?_⟩) (args_list_sort _)))
  · have e' : some o1 = some (seqObj "list" vs.toArray 0) := e.symm.trans gl
    cases e'
    intro c
    exact absurd (Value.type.inj c) (by decide)
  · obtain ⟨c, gc⟩ := sortedHeap_at (vs := vs) (out := out.toArray) gl
    have oown : ∀ v ∈ out, ∃ b x, v = Value.ref b ∧ H b = some (.tup [.int x.1, .int x.2]) ∧ (x : Pr) ∈ ps := fun v m => own v (stb.perm.mem_iff.mp m)
    have keepAll : ∀ b u, h'.get? b = some u → (sortedHeap h1 h'.objs.size vs out.toArray).get? b = some u := fun b u g1 => by
      have lt1 := Heap.lt_size g1
      rw [sortedHeap_old (Nat.ne_of_lt lt1) (Heap.lt_size (keep1 b u g1))]
      exact keep1 b u g1
    have nF : H h'.objs.size = none := I1.hok.fresh (Nat.le_refl _)
    let ts : List (Addr × Pr) := out.map fun v => (adr v, pr (TS.intsOf h1 v))
    have eo : ts.map (fun t => Value.ref t.1) = out := by
      rw [List.map_map]
      refine (List.map_congr_left fun v m => ?_).trans (List.map_id _)
      obtain ⟨b, x, rfl, _⟩ := oown v m
      rfl
    have vals : ∀ ts : List (Addr × Pr), Vals (ts.map fun q => V.ref q.1) (ts.map fun q => Value.ref q.1) := fun ts => by
      induction ts with
      | nil => exact .nil
      | cons t ts ih => exact .cons rfl ih
    have lo : ts.length ≤ sizeLine := by
      rw [List.length_map, stb.perm.length_eq]
      exact lacc
    have new : ObjOk X.prog X.w (upd H h'.objs.size (.lst (ts.map fun q => V.ref q.1))) (sortedHeap h1 h'.objs.size vs out.toArray) h'.objs.size (.lst (ts.map fun q => V.ref q.1)) := by
      refine ⟨by rw [List.length_map]; exact lo, ts.map fun q => Value.ref q.1, c, vals ts, ?_⟩
      rw [eo]
      exact gc
    have J := I1.laid (t' := tk) keepAll (Nat.le_refl _) new
    have pmk : (ts.map (·.2)).Perm ps := by
      rw [List.map_map, ← mapK]
      exact stb.perm.map fun v => pr (TS.intsOf h1 v)
    refine wpAny_pure ⟨_, rfl, .ref h'.objs.size, _, J, rfl, q _ _ (ts.map (·.2)) (newS nF) nF ⟨ts, upd_same, fun t m => ?_, rfl⟩ ⟨?_, fun x => pmk.mem_iff⟩ pmk.length_eq⟩
    · obtain ⟨v, m1, rfl⟩ := List.mem_map.mp m
      obtain ⟨b, x, rfl, e, _⟩ := oown v m1
      refine newS nF _ _ ?_
      show H b = some (.tup [.int (pr (TS.intsOf h1 (.ref b))).1, .int (pr (TS.intsOf h1 (.ref b))).2])
      rw [key b x e]
      exact e
    · have nd : (ts.map (·.2)).Nodup := pmk.nodup_iff.mpr hm.2
      rw [List.map_map] at nd ⊢
      refine List.pairwise_map.mpr ((srt.and (List.pairwise_map.mp nd)).imp fun {u v} h => ?_)
      have a1 := SrtO.lexB_no.mp h.1
      have a2 : ¬ ((pr (TS.intsOf h1 u)).1 = (pr (TS.intsOf h1 v)).1 ∧ (pr (TS.intsOf h1 u)).2 = (pr (TS.intsOf h1 v)).2) := fun e => h.2 (Prod.ext e.1 e.2)
      refine ltP_iff.mpr ?_
      show (pr (TS.intsOf h1 u)).1 < (pr (TS.intsOf h1 v)).1 ∨ (pr (TS.intsOf h1 u)).1 = (pr (TS.intsOf h1 v)).1 ∧ (pr (TS.intsOf h1 u)).2 < (pr (TS.intsOf h1 v)).2
      omega
end Vx
namespace My
open PySem PySem.Spec PyProof.Rows L2 Vx
def topS (i : Nat) : Stmt := PySem.Challenge.pw_longlife_k04_generations_of_patterns.main.body.getD i (.Pass ⟨0, 0, 0, 0⟩)
abbrev s_floor_of : Stmt := topS 3
abbrev N_floor_of : List Str := ["cells", "first", "floor", "row", "column", "at", "bit"]
theorem sc_floor_of : FnScope N_floor_of ["cells", "first"] (defScope s_floor_of) := ⟨rfl, rfl, rfl, by decide +kernel, rfl, by decide +kernel, by decide +kernel⟩
abbrev s_cells_of : Stmt := topS 4
abbrev N_cells_of : List Str := ["floor", "first", "cells", "row", "at", "start", "strip", "lowest"]
theorem sc_cells_of : FnScope N_cells_of ["floor", "first"] (defScope s_cells_of) := ⟨rfl, rfl, rfl, by decide +kernel, rfl, by decide +kernel, by decide +kernel⟩
abbrev s_next_floor : Stmt := topS 5
abbrev N_next_floor : List Str := ["floor", "rule", "sums", "none", "after", "row", "at", "above", "here", "below", "strip"]
theorem sc_next_floor : FnScope N_next_floor ["floor", "rule"] (defScope s_next_floor) := ⟨rfl, rfl, rfl, by decide +kernel, rfl, by decide +kernel, by decide +kernel⟩
abbrev s_row_sums : Stmt := topS 6
abbrev N_row_sums : List Str := ["floor", "last", "full", "sums", "row", "at", "alive", "left", "right"]
theorem sc_row_sums : FnScope N_row_sums ["floor"] (defScope s_row_sums) := ⟨rfl, rfl, rfl, by decide +kernel, rfl, by decide +kernel, by decide +kernel⟩
abbrev s_sums_of : Stmt := topS 7
abbrev N_sums_of : List Str := ["left", "alive", "right", "odd"]
theorem sc_sums_of : FnScope N_sums_of ["left", "alive", "right"] (defScope s_sums_of) := ⟨rfl, rfl, rfl, by decide +kernel, rfl, by decide +kernel, by decide +kernel⟩
abbrev s_with_strips_beside : Stmt := topS 8
abbrev N_with_strips_beside : List Str := ["floor", "last", "keys", "row", "at", "strip"]
theorem sc_with_strips_beside : FnScope N_with_strips_beside ["floor"] (defScope s_with_strips_beside) := ⟨rfl, rfl, rfl, by decide +kernel, rfl, by decide +kernel, by decide +kernel⟩
abbrev s_with_rows_beside : Stmt := topS 9
abbrev N_with_rows_beside : List Str := ["sums", "keys", "row", "at"]
theorem sc_with_rows_beside : FnScope N_with_rows_beside ["sums"] (defScope s_with_rows_beside) := ⟨rfl, rfl, rfl, by decide +kernel, rfl, by decide +kernel, by decide +kernel⟩
abbrev s_totals_of : Stmt := topS 10
abbrev N_totals_of : List Str := ["above", "here", "below", "above_ones", "above_twos", "here_ones", "here_twos", "below_ones", "below_twos", "odd", "carried", "first", "second", "first_four", "second_four", "fours"]
theorem sc_totals_of : FnScope N_totals_of ["above", "here", "below"] (defScope s_totals_of) := ⟨rfl, rfl, rfl, by decide +kernel, rfl, by decide +kernel, by decide +kernel⟩
abbrev s_next_strip : Stmt := topS 11
abbrev N_next_strip : List Str := ["alive", "totals", "rule", "ones", "twos", "fours", "eights", "near", "not_ones", "not_twos", "low", "high", "born", "number", "kept", "total"]
theorem sc_next_strip : FnScope N_next_strip ["alive", "totals", "rule"] (defScope s_next_strip) := ⟨rfl, rfl, rfl, by decide +kernel, rfl, by decide +kernel, by decide +kernel⟩
abbrev s_grown : Stmt := topS 13
abbrev N_grown : List Str := ["cells", "rule", "generations", "first", "floor", "_", "column"]
theorem sc_grown : FnScope N_grown ["cells", "rule", "generations"] (defScope s_grown) := ⟨rfl, rfl, rfl, by decide +kernel, rfl, by decide +kernel, by decide +kernel⟩
abbrev s_Rule_init : Stmt := inClass (topS 15) 0
abbrev N_Rule_init : List Str := ["self", "births", "survival"]
theorem sc_Rule_init : FnScope N_Rule_init ["self", "births", "survival"] (defScope s_Rule_init) := ⟨rfl, rfl, rfl, by decide +kernel, rfl, by decide +kernel, by decide +kernel⟩
abbrev s_law_cell : Stmt := topS 17
abbrev N_law_cell : List Str := ["script", "k"]
theorem sc_law_cell : FnScope N_law_cell ["script", "k"] (defScope s_law_cell) := ⟨rfl, rfl, rfl, by decide +kernel, rfl, by decide +kernel, by decide +kernel⟩
abbrev s_law_row : Stmt := topS 18
abbrev N_law_row : List Str := ["cell", "count", "bound", "rest", "mixed", "row", "k"]
theorem sc_law_row : FnScope N_law_row ["cell", "count", "bound"] (defScope s_law_row) := ⟨rfl, rfl, rfl, by decide +kernel, rfl, by decide +kernel, by decide +kernel⟩
abbrev s_law_integer : Stmt := topS 19
abbrev N_law_integer : List Str := ["value"]
theorem sc_law_integer : FnScope N_law_integer ["value"] (defScope s_law_integer) := ⟨rfl, rfl, rfl, by decide +kernel, rfl, by decide +kernel, by decide +kernel⟩
abbrev s_law_cells : Stmt := topS 20
abbrev N_law_cells : List Str := ["value", "cell"]
theorem sc_law_cells : FnScope N_law_cells ["value"] (defScope s_law_cells) := ⟨rfl, rfl, rfl, by decide +kernel, rfl, by decide +kernel, by decide +kernel⟩
abbrev s_law_numbers : Stmt := topS 21
abbrev N_law_numbers : List Str := ["cell", "x", "births", "survival", "k"]
theorem sc_law_numbers : FnScope N_law_numbers ["cell"] (defScope s_law_numbers) := ⟨rfl, rfl, rfl, by decide +kernel, rfl, by decide +kernel, by decide +kernel⟩
abbrev s_law_some : Stmt := topS 22
abbrev N_law_some : List Str := ["cell", "count", "height", "width", "x", "found", "y", "place"]
theorem sc_law_some : FnScope N_law_some ["cell", "count", "height", "width"] (defScope s_law_some) := ⟨rfl, rfl, rfl, by decide +kernel, rfl, by decide +kernel, by decide +kernel⟩
abbrev s_law_next : Stmt := topS 23
abbrev N_law_next : List Str := ["cells", "births", "survival", "counts", "alive", "r", "c", "i", "j", "found", "place"]
theorem sc_law_next : FnScope N_law_next ["cells", "births", "survival"] (defScope s_law_next) := ⟨rfl, rfl, rfl, by decide +kernel, rfl, by decide +kernel, by decide +kernel⟩
abbrev s_law : Stmt := topS 24
abbrev N_law : List Str := ["script", "births", "survival", "rule", "first", "cells", "handed", "given", "generations", "expected", "k", "told"]
theorem sc_law : FnScope N_law ["script"] (defScope s_law) := ⟨rfl, rfl, rfl, by decide +kernel, rfl, by decide +kernel, by decide +kernel⟩
structure Txt (K : PySem.W.Frag) (mg : Str → Option Value) where
  C_Rule : Addr
  g_Rule : mg "Rule" = some (.ref C_Rule)
  cl_Rule : Cls K C_Rule
  na_Rule_births : NoAttr K C_Rule "births"
  na_Rule_survival : NoAttr K C_Rule "survival"
  f_floor_of : Addr
  d_floor_of : FuncData
  F_floor_of : Fun K "floor_of" "floor_of" s_floor_of f_floor_of d_floor_of
  b_floor_of : Binds K d_floor_of ["cells", "first"] []
  g_floor_of : mg "floor_of" = some (.ref f_floor_of)
  f_cells_of : Addr
  d_cells_of : FuncData
  F_cells_of : Fun K "cells_of" "cells_of" s_cells_of f_cells_of d_cells_of
  b_cells_of : Binds K d_cells_of ["floor", "first"] []
  g_cells_of : mg "cells_of" = some (.ref f_cells_of)
  f_next_floor : Addr
  d_next_floor : FuncData
  F_next_floor : Fun K "next_floor" "next_floor" s_next_floor f_next_floor d_next_floor
  b_next_floor : Binds K d_next_floor ["floor", "rule"] []
  g_next_floor : mg "next_floor" = some (.ref f_next_floor)
  f_row_sums : Addr
  d_row_sums : FuncData
  F_row_sums : Fun K "_row_sums" "_row_sums" s_row_sums f_row_sums d_row_sums
  b_row_sums : Binds K d_row_sums ["floor"] []
  g_row_sums : mg "_row_sums" = some (.ref f_row_sums)
  f_sums_of : Addr
  d_sums_of : FuncData
  F_sums_of : Fun K "sums_of" "sums_of" s_sums_of f_sums_of d_sums_of
  b_sums_of : Binds K d_sums_of ["left", "alive", "right"] []
  g_sums_of : mg "sums_of" = some (.ref f_sums_of)
  f_with_strips_beside : Addr
  d_with_strips_beside : FuncData
  F_with_strips_beside : Fun K "_with_strips_beside" "_with_strips_beside" s_with_strips_beside f_with_strips_beside d_with_strips_beside
  b_with_strips_beside : Binds K d_with_strips_beside ["floor"] []
  g_with_strips_beside : mg "_with_strips_beside" = some (.ref f_with_strips_beside)
  f_with_rows_beside : Addr
  d_with_rows_beside : FuncData
  F_with_rows_beside : Fun K "_with_rows_beside" "_with_rows_beside" s_with_rows_beside f_with_rows_beside d_with_rows_beside
  b_with_rows_beside : Binds K d_with_rows_beside ["sums"] []
  g_with_rows_beside : mg "_with_rows_beside" = some (.ref f_with_rows_beside)
  f_totals_of : Addr
  d_totals_of : FuncData
  F_totals_of : Fun K "totals_of" "totals_of" s_totals_of f_totals_of d_totals_of
  b_totals_of : Binds K d_totals_of ["above", "here", "below"] []
  g_totals_of : mg "totals_of" = some (.ref f_totals_of)
  f_next_strip : Addr
  d_next_strip : FuncData
  F_next_strip : Fun K "next_strip" "next_strip" s_next_strip f_next_strip d_next_strip
  b_next_strip : Binds K d_next_strip ["alive", "totals", "rule"] []
  g_next_strip : mg "next_strip" = some (.ref f_next_strip)
  f_grown : Addr
  d_grown : FuncData
  F_grown : Fun K "grown" "grown" s_grown f_grown d_grown
  b_grown : Binds K d_grown ["cells", "rule", "generations"] []
  g_grown : mg "grown" = some (.ref f_grown)
  f_Rule_init : Addr
  d_Rule_init : FuncData
  F_Rule_init : Fun K "__init__" "Rule.__init__" s_Rule_init f_Rule_init d_Rule_init
  b_Rule_init : Binds K d_Rule_init ["self", "births", "survival"] []
  M_Rule : Mk K C_Rule f_Rule_init
  f_law_cell : Addr
  d_law_cell : FuncData
  F_law_cell : Fun K "_law_cell" "_law_cell" s_law_cell f_law_cell d_law_cell
  b_law_cell : Binds K d_law_cell ["script", "k"] []
  g_law_cell : mg "_law_cell" = some (.ref f_law_cell)
  f_law_row : Addr
  d_law_row : FuncData
  F_law_row : Fun K "_law_row" "_law_row" s_law_row f_law_row d_law_row
  b_law_row : Binds K d_law_row ["cell", "count", "bound"] []
  g_law_row : mg "_law_row" = some (.ref f_law_row)
  f_law_integer : Addr
  d_law_integer : FuncData
  F_law_integer : Fun K "_law_integer" "_law_integer" s_law_integer f_law_integer d_law_integer
  b_law_integer : Binds K d_law_integer ["value"] []
  g_law_integer : mg "_law_integer" = some (.ref f_law_integer)
  f_law_cells : Addr
  d_law_cells : FuncData
  F_law_cells : Fun K "_law_cells" "_law_cells" s_law_cells f_law_cells d_law_cells
  b_law_cells : Binds K d_law_cells ["value"] []
  g_law_cells : mg "_law_cells" = some (.ref f_law_cells)
  f_law_numbers : Addr
  d_law_numbers : FuncData
  F_law_numbers : Fun K "_law_numbers" "_law_numbers" s_law_numbers f_law_numbers d_law_numbers
  b_law_numbers : Binds K d_law_numbers ["cell"] []
  g_law_numbers : mg "_law_numbers" = some (.ref f_law_numbers)
  f_law_some : Addr
  d_law_some : FuncData
  F_law_some : Fun K "_law_some" "_law_some" s_law_some f_law_some d_law_some
  b_law_some : Binds K d_law_some ["cell", "count", "height", "width"] []
  g_law_some : mg "_law_some" = some (.ref f_law_some)
  f_law_next : Addr
  d_law_next : FuncData
  F_law_next : Fun K "_law_next" "_law_next" s_law_next f_law_next d_law_next
  b_law_next : Binds K d_law_next ["cells", "births", "survival"] []
  g_law_next : mg "_law_next" = some (.ref f_law_next)
  f_law : Addr
  d_law : FuncData
  F_law : Fun K "law" "law" s_law f_law d_law
  b_law : Binds K d_law ["script"] []
  g_law : mg "law" = some (.ref f_law)
  z_divmod : mg "divmod" = none
  z_sorted : mg "sorted" = none
  z_list : mg "list" = none
  z_range : mg "range" = none
  z_min : mg "min" = none
  z_tuple : mg "tuple" = none
  z_set : mg "set" = none
  z_len : mg "len" = none
  z_int : mg "int" = none
  z_abs : mg "abs" = none
  z_isinstance : mg "isinstance" = none
  z_bool : mg "bool" = none
  c_WIDTH : ∃ u, mg "WIDTH" = some u ∧ RelV (.int (2048)) u
end My
namespace My
open PySem PySem.Spec PyProof.Rows L2 Vx
open TL
local macro_rules | `(tactic| k_invariant "new" ($n, $H:ident, $e:ident, $h:ident)) => `(tactic| (generalize hE : upd _ _ _ = $H; obtain ⟨$e:ident, $h:ident⟩ := gen_e hE $n; clear hE))
local macro_rules | `(tactic| k_places) => `(tactic| first
  | assumption
  | exact lst_of (by assumption)
  | exact tup_of (by assumption)
  | (refine getS (by assumption) ?_; k_places)
  | (refine Same.seq (by assumption) ?_; k_places)
  | (refine tupS (by assumption) ?_; k_places)
  | (refine lst_of ?_; k_places)
  | (refine tup_of ?_; k_places))
local macro_rules | `(tactic| k_subL) => `(tactic| first
  | k_places
  | solve_by_elim (maxDepth := 10) [getS, lst_of, tup_of, Same.seq, tupS])
local macro_rules | `(tactic| k_offL) => `(tactic| first
  | (show (0 : Int) < _; first | omega | decide)
  | (refine ⟨?_, ?_⟩ <;> first | omega | decide)
  | exact .inr ⟨by decide, by decide⟩
  | exact .inl ⟨by decide, by decide⟩
  | exact .inl ⟨by omega, by omega⟩
  | omega)
local macro_rules | `(tactic| k_clsL) => `(tactic| exact Nat.le_of_ble_eq_true rfl)
local macro_rules | `(tactic| k_upd) => `(tactic| simp only [L2.start, List.map_cons, List.map_nil, List.length_cons, List.length_nil, List.replicate_succ, List.replicate_zero, List.cons_append, List.nil_append, List.set_cons_zero, List.set_cons_succ])
section
variable {P : Program} {w : World} {K : PySem.W.Frag} {mg : Str → Option Value} {base : Heap}
/-! ### rules -/
theorem bs_ne : ¬ (("births" : Str) = "survival") := by decide +kernel
theorem sb_ne : ¬ (("survival" : Str) = "births") := by decide +kernel
def rf (tb ts : Addr) : List (Str × V) := putF "survival" (.ref ts) (putF "births" (.ref tb) [])
theorem rf_b (tb ts : Addr) : (rf tb ts).lookup ("births" : Str) = some (.ref tb) := by
  unfold rf
  rw [lookup_putF, if_neg bs_ne, lookup_putF, if_pos rfl]
theorem rf_s (tb ts : Addr) : (rf tb ts).lookup ("survival" : Str) = some (.ref ts) := by
  unfold rf
  rw [lookup_putF, if_pos rfl]
theorem rf_no (tb ts : Addr) {m : Str} (h1 : ¬ m = "survival") (h2 : ¬ m = "births") : (rf tb ts).lookup m = none := by
  unfold rf
  rw [lookup_putF, if_neg h1, lookup_putF, if_neg h2]
  rfl
def RuleAt (C : Addr) (H : Hp) (r : Addr) (bs ss : List Int) : Prop :=
  ∃ dx tb ts, H r = some (.ins C dx (rf tb ts)) ∧ H tb = some (.tup (bs.map V.int)) ∧ H ts = some (.tup (ss.map V.int))
theorem RuleAt.up {C : Addr} {H H' : Hp} {r : Addr} {bs ss : List Int} (e : Same H H') (h : RuleAt C H r bs ss) : RuleAt C H' r bs ss := by
  obtain ⟨dx, tb, ts, h1, h2, h3⟩ := h
  exact ⟨dx, tb, ts, e _ _ h1, e _ _ h2, e _ _ h3⟩
def Canon (ns l : List Int) : Prop := l.Pairwise (· < ·) ∧ ∀ k, k ∈ l ↔ k ∈ ns
theorem canon_eq {ns l m : List Int} (h : Canon ns l) (h2 : m.Pairwise (· < ·)) (h3 : ∀ k, k ∈ ns ↔ k ∈ m) : l = m := asc_eq h.1 h2 fun k => (h.2 k).trans (h3 k)
def sp_Rule_init (K : PySem.W.Frag) (C : Addr) : Sp := fun vs H Q _ => ∃ (H0 : Hp) (r lb ls dx : Addr) (nb ns : List Int), vs = [.ref r, .ref lb, .ref ls] ∧ Same H0 H ∧ H0 r = none ∧ H r = some (.ins C dx []) ∧
  SqL K H0 lb (nb.map V.int) ∧ SqL K H0 ls (ns.map V.int) ∧ nb.length ≤ 63 ∧ ns.length ≤ 63 ∧
  ∀ (H' : Hp) (bs ss : List Int), Same H0 H' → RuleAt C H' r bs ss → Canon nb bs → Canon ns ss → Q .non H'
theorem ok_Rule_init (T : Txt K mg) : FnOk P w K mg base CX0 1 T.f_Rule_init T.d_Rule_init ["self", "births", "survival"] (sp_Rule_init K T.C_Rule) := by
  refine T.F_Rule_init.ok sc_Rule_init (fun vs H Q E h => ?_) (fun cdv A outer s H vs Q E hr h => ?_)
  · obtain ⟨_, _, _, _, _, _, _, rfl, _⟩ := h
    rfl
  · obtain ⟨H0, r, lb, ls, dx, nb, ns, rfl, s0, r0, hr0, hb, hs, l1, l2, q⟩ := h
    refine ⟨_, (pss_cons (ps_fld (pv 0) (pe_callTy call_tupL (by rfl) T.z_tuple (by decide +kernel) (pa_cons (pe_callB (cr_sortedSet rfl) (by rfl) T.z_sorted (by decide +kernel) (pa_cons (pe_callTy (cr_setL rfl) (by rfl) T.z_set (by decide +kernel) (pa_cons (pv 1) pa_nil)) pa_nil)) pa_nil)) rfl)
      (pss_one (ps_fld (pv 0) (pe_callTy call_tupL (by rfl) T.z_tuple (by decide +kernel) (pa_cons (pe_callB (cr_sortedSet rfl) (by rfl) T.z_sorted (by decide +kernel) (pa_cons (pe_callTy (cr_setL rfl) (by rfl) T.z_set (by decide +kernel) (pa_cons (pv 2) pa_nil)) pa_nil)) pa_nil)) rfl))), ?_⟩
    refine ⟨_, rfl, lb, nb, rfl, s0.seq hb, Nat.lt_of_le_of_lt (Nat.add_le_add_right l1 1) (by decide), fun p1 c1 n1 hc1 => ?_⟩
    k_invariant "new" (n1, H1, e1, h1)
    refine ⟨_, _, _, rfl, h1, by omega, fun bs p2 pw1 mem1 len1 n2 => ?_⟩
    k_invariant "new" (n2, H2, e2, h2)
    refine ⟨_, _, rfl, lst_of h2, fun p3 n3 => ?_⟩
    k_invariant "new" (n3, H3, e3, h3)
    refine ⟨_, rfl, r, T.C_Rule, dx, [], rfl, by k_subL, T.cl_Rule, T.na_Rule_births, (by show 0 < 1000; decide), ?_⟩
    have s3 : Same H0 H3 := s0.trans (e1.trans (e2.trans e3))
    have r3 : p3 ≠ r := fun e => by
      have : H3 r = some (.ins T.C_Rule dx []) := by k_subL
      rw [e] at h3
      rw [h3] at this
      cases this
    have s4 : Same H0 (upd H3 r (.ins T.C_Rule dx (putF "births" (.ref p3) []))) := mutS s3 r0
    have g4 : upd H3 r (.ins T.C_Rule dx (putF "births" (.ref p3) [])) r = some (.ins T.C_Rule dx (putF "births" (.ref p3) [])) := upd_same
    have g3 : upd H3 r (.ins T.C_Rule dx (putF "births" (.ref p3) [])) p3 = some (.tup (bs.map V.int)) := by rw [upd_ne r3]; exact h3
    generalize upd H3 r (.ins T.C_Rule dx (putF "births" (.ref p3) [])) = H4 at s4 g4 g3
    refine ⟨_, rfl, ls, ns, rfl, s4.seq hs, Nat.lt_of_le_of_lt (Nat.add_le_add_right l2 1) (by decide), fun p5 c2 n5 hc2 => ?_⟩
    k_invariant "new" (n5, H5, e5, h5)
    refine ⟨_, _, _, rfl, h5, by omega, fun ss p6 pw2 mem2 len2 n6 => ?_⟩
    k_invariant "new" (n6, H6, e6, h6)
    refine ⟨_, _, rfl, lst_of h6, fun p7 n7 => ?_⟩
    k_invariant "new" (n7, H7, e7, h7)
    have g8 : H7 r = some (.ins T.C_Rule dx (putF "births" (.ref p3) [])) := by k_subL
    refine ⟨_, rfl, r, T.C_Rule, dx, _, rfl, g8, T.cl_Rule, T.na_Rule_survival, (by show 1 < 1000; decide), ?_⟩
    have r7 : p7 ≠ r := fun e => by
      have : H7 r = some (.ins T.C_Rule dx (putF "births" (.ref p3) [])) := by k_subL
      rw [e] at h7
      rw [h7] at this
      cases this
    have g7 : H7 p3 = some (.tup (bs.map V.int)) := by k_subL
    refine q _ bs ss (mutS (s4.trans (e5.trans (e6.trans e7))) r0) ⟨dx, p3, p7, upd_same, ?_, ?_⟩ ⟨pw1, fun k => (mem1 k).trans (by simp)⟩ ⟨pw2, fun k => (mem2 k).trans (by simp)⟩
    · rw [upd_ne r3]; exact g7
    · rw [upd_ne r7]; exact h7
/-! ### three rows of bits counted -/
def ones3 (l a r : Nat) : Nat := (l ^^^ r) ^^^ a
def twos3 (l a r : Nat) : Nat := (l &&& r) ||| ((l ^^^ r) &&& a)
def sp_sums_of : Sp := fun vs H Q _ => ∃ (l a r : Nat), vs = [.int (l : Int), .int (a : Int), .int (r : Int)] ∧
  ∀ (H' : Hp) (p : Addr), Same H H' → H p = none → H' p = some (.tup [.int (ones3 l a r : Nat), .int (twos3 l a r : Nat)]) → Q (.ref p) H'
theorem ok_sums_of (T : Txt K mg) : FnOk P w K mg base CX0 1 T.f_sums_of T.d_sums_of ["left", "alive", "right"] sp_sums_of := by
  refine T.F_sums_of.ok sc_sums_of (fun vs H Q E h => ?_) (fun cdv A outer s H vs Q E hr h => ?_)
  · obtain ⟨_, _, _, rfl, _⟩ := h
    rfl
  · obtain ⟨l, a, r, rfl, q⟩ := h
    refine ⟨_, (pss_cons (ps_set (i := 3) sc_sums_of.nd rfl (.inl rfl) (pe_op op_xorNN (pv 0) (pv 2)))
      (pss_one (ps_ret (pe_tup (pa_cons (pe_op op_xorNN (pv 3) (pv 1)) (pa_cons (pe_op op_orNN (pe_op op_andNN (pv 0) (pv 2)) (pe_op op_andNN (pv 3) (pv 1))) pa_nil)))))), ?_⟩
    exact ⟨_, rfl, _, rfl, _, _, rfl, rfl, _, rfl, _, rfl, _, _, rfl, rfl, _, rfl, _, rfl, _, _, rfl, rfl, _, rfl, _, rfl, _, _, rfl, rfl, _, _, rfl, rfl, (by k_clsL), fun p n => q _ p (newS n) n upd_same⟩
def one9 (ao ho bo : Nat) : Nat := (ao ^^^ bo) ^^^ ho
def car9 (ao ho bo : Nat) : Nat := (ao &&& bo) ||| ((ao ^^^ bo) &&& ho)
def two9 (ao at' ho ht bo bt : Nat) : Nat := (at' ^^^ bt) ^^^ (ht ^^^ car9 ao ho bo)
def four9 (ao at' ho ht bo bt : Nat) : Nat := ((at' &&& bt) ^^^ (ht &&& car9 ao ho bo)) ||| ((at' ^^^ bt) &&& (ht ^^^ car9 ao ho bo))
def eight9 (ao at' ho ht bo bt : Nat) : Nat := (at' &&& bt) &&& (ht &&& car9 ao ho bo)
def sp_totals_of : Sp := fun vs H Q _ => ∃ (pa ph pb : Addr) (ao at' ho ht bo bt : Nat), vs = [.ref pa, .ref ph, .ref pb] ∧
  H pa = some (.tup [.int (ao : Int), .int (at' : Int)]) ∧ H ph = some (.tup [.int (ho : Int), .int (ht : Int)]) ∧ H pb = some (.tup [.int (bo : Int), .int (bt : Int)]) ∧
  ∀ (H' : Hp) (p : Addr), Same H H' → H p = none → H' p = some (.tup [.int (one9 ao ho bo : Nat), .int (two9 ao at' ho ht bo bt : Nat), .int (four9 ao at' ho ht bo bt : Nat), .int (eight9 ao at' ho ht bo bt : Nat)]) → Q (.ref p) H'
theorem ok_totals_of (T : Txt K mg) : FnOk P w K mg base CX0 1 T.f_totals_of T.d_totals_of ["above", "here", "below"] sp_totals_of := by
  refine T.F_totals_of.ok sc_totals_of (fun vs H Q E h => ?_) (fun cdv A outer s H vs Q E hr h => ?_)
  · obtain ⟨_, _, _, _, _, _, _, _, _, rfl, _⟩ := h
    rfl
  · obtain ⟨pa, ph, pb, ao, at', ho, ht, bo, bt, rfl, ha, hh, hb, q⟩ := h
    refine ⟨_, (pss_cons (ps_asg (pv 0) (pg_tupK (K := K) (n := 2) rfl rfl (pgs_cons (pg_name (i := 3) sc_totals_of.nd rfl (.inl rfl)) (pgs_cons (pg_name (i := 4) sc_totals_of.nd rfl (.inl rfl)) pgs_nil))))
      (pss_cons (ps_asg (pv 1) (pg_tupK (K := K) (n := 2) rfl rfl (pgs_cons (pg_name (i := 5) sc_totals_of.nd rfl (.inl rfl)) (pgs_cons (pg_name (i := 6) sc_totals_of.nd rfl (.inl rfl)) pgs_nil))))
      (pss_cons (ps_asg (pv 2) (pg_tupK (K := K) (n := 2) rfl rfl (pgs_cons (pg_name (i := 7) sc_totals_of.nd rfl (.inl rfl)) (pgs_cons (pg_name (i := 8) sc_totals_of.nd rfl (.inl rfl)) pgs_nil))))
      (pss_cons (ps_set (i := 9) sc_totals_of.nd rfl (.inl rfl) (pe_op op_xorNN (pv 3) (pv 7)))
      (pss_cons (ps_set (i := 10) sc_totals_of.nd rfl (.inl rfl) (pe_op op_orNN (pe_op op_andNN (pv 3) (pv 7)) (pe_op op_andNN (pv 9) (pv 5))))
      (pss_cons (ps_set (i := 11) sc_totals_of.nd rfl (.inl rfl) (pe_op op_xorNN (pv 4) (pv 8)))
      (pss_cons (ps_set (i := 12) sc_totals_of.nd rfl (.inl rfl) (pe_op op_xorNN (pv 6) (pv 10)))
      (pss_cons (ps_set (i := 13) sc_totals_of.nd rfl (.inl rfl) (pe_op op_andNN (pv 4) (pv 8)))
      (pss_cons (ps_set (i := 14) sc_totals_of.nd rfl (.inl rfl) (pe_op op_andNN (pv 6) (pv 10)))
      (pss_cons (ps_set (i := 15) sc_totals_of.nd rfl (.inl rfl) (pe_op op_orNN (pe_op op_xorNN (pv 13) (pv 14)) (pe_op op_andNN (pv 11) (pv 12))))
      (pss_one (ps_ret (pe_tup (pa_cons (pe_op op_xorNN (pv 9) (pv 5)) (pa_cons (pe_op op_xorNN (pv 11) (pv 12)) (pa_cons (pv 15) (pa_cons (pe_op op_andNN (pv 13) (pv 14)) pa_nil))))))))))))))))), ?_⟩
    k_upd
    refine ⟨_, rfl, pa, _, rfl, tup_of ha, rfl, _, _, rfl, _, _, rfl, rfl, ?_⟩
    k_upd
    refine ⟨_, rfl, ph, _, rfl, tup_of hh, rfl, _, _, rfl, _, _, rfl, rfl, ?_⟩
    k_upd
    refine ⟨_, rfl, pb, _, rfl, tup_of hb, rfl, _, _, rfl, _, _, rfl, rfl, ?_⟩
    k_upd
    refine ⟨_, rfl, _, rfl, _, _, rfl, rfl, ?_⟩
    k_upd
    refine ⟨_, rfl, _, rfl, _, _, rfl, rfl, _, rfl, _, rfl, _, _, rfl, rfl, _, _, rfl, rfl, ?_⟩
    k_upd
    refine ⟨_, rfl, _, rfl, _, _, rfl, rfl, ?_⟩
    k_upd
    refine ⟨_, rfl, _, rfl, _, _, rfl, rfl, ?_⟩
    k_upd
    refine ⟨_, rfl, _, rfl, _, _, rfl, rfl, ?_⟩
    k_upd
    refine ⟨_, rfl, _, rfl, _, _, rfl, rfl, ?_⟩
    k_upd
    refine ⟨_, rfl, _, rfl, _, _, rfl, rfl, _, rfl, _, rfl, _, _, rfl, rfl, _, _, rfl, rfl, ?_⟩
    k_upd
    refine ⟨_, rfl, _, rfl, _, _, rfl, rfl, _, rfl, _, rfl, _, _, rfl, rfl, _, rfl, _, rfl, _, rfl, _, _, rfl, rfl, (by k_clsL), fun p n => q _ p (newS n) n upd_same⟩
/-! ### the next strip -/
def near9 (o t f e : Nat) : Nat := ((o ||| t) ||| f) ||| e
def low4 (o t f e : Nat) : Nat → Nat
  | 0 => (near9 o t f e ^^^ o) &&& (near9 o t f e ^^^ t)
  | 1 => o &&& (near9 o t f e ^^^ t)
  | 2 => (near9 o t f e ^^^ o) &&& t
  | _ => o &&& t
def high3 (o t f e : Nat) : Nat → Nat
  | 0 => near9 o t f e ^^^ (f ||| e)
  | 1 => f
  | _ => e
def pick (o t f e n : Nat) : Nat := low4 o t f e (n % 4) &&& high3 o t f e (n / 4)
def picks (o t f e : Nat) (ns : List Nat) : Nat := ns.foldl (fun acc n => acc ||| pick o t f e n) 0
def nextN (alive o t f e : Nat) (bs ss : List Int) : Nat :=
  (picks o t f e (bs.map Int.toNat) &&& (near9 o t f e ^^^ alive)) ||| (picks o t f e (ss.map fun n => n.toNat + 1) &&& alive)
theorem at_low (o t f e : Nat) {k : Nat} (h : k < 4) : atI [V.int (((near9 o t f e ^^^ o) &&& (near9 o t f e ^^^ t) : Nat) : Int), .int ((o &&& (near9 o t f e ^^^ t) : Nat) : Int), .int (((near9 o t f e ^^^ o) &&& t : Nat) : Int), .int ((o &&& t : Nat) : Int)] (k : Int) = some (.int (low4 o t f e k : Nat)) := by
  match k, h with
  | 0, _ => rfl
  | 1, _ => rfl
  | 2, _ => rfl
  | 3, _ => rfl
theorem at_high (o t f e : Nat) {k : Nat} (h : k < 3) : atI [V.int ((near9 o t f e ^^^ (f ||| e) : Nat) : Int), .int (f : Int), .int (e : Int)] (k : Int) = some (.int (high3 o t f e k : Nat)) := by
  match k, h with
  | 0, _ => rfl
  | 1, _ => rfl
  | 2, _ => rfl
theorem and3 (m : Nat) : m &&& 3 = m % 4 := Nat.and_two_pow_sub_one_eq_mod m 2
theorem shr2 (m : Nat) : m >>> 2 = m / 4 := by rw [Nat.shiftRight_eq_div_pow]
def sp_next_strip (C : Addr) : Sp := fun vs H Q _ => ∃ (pt r : Addr) (alive o t f e : Nat) (bs ss : List Int), vs = [.int (alive : Int), .ref pt, .ref r] ∧
  H pt = some (.tup [.int (o : Int), .int (t : Int), .int (f : Int), .int (e : Int)]) ∧ RuleAt C H r bs ss ∧ (∀ b ∈ bs, 0 ≤ b ∧ b ≤ 8) ∧ (∀ b ∈ ss, 0 ≤ b ∧ b ≤ 8) ∧
  ∀ (H' : Hp), Same H H' → Q (.int (nextN alive o t f e bs ss : Nat)) H'
theorem ok_next_strip (T : Txt K mg) : FnOk P w K mg base CX0 1 T.f_next_strip T.d_next_strip ["alive", "totals", "rule"] (sp_next_strip T.C_Rule) := by
  refine T.F_next_strip.ok sc_next_strip (fun vs H Q E h => ?_) (fun cdv A outer s H vs Q E hr h => ?_)
  · obtain ⟨_, _, _, _, _, _, _, _, _, rfl, _⟩ := h
    rfl
  · obtain ⟨pt, r, alive, o, t, f, e, bs, ss, rfl, hp, hR, bb, bss, q⟩ := h
    refine ⟨_, (pss_cons (ps_asg (pv 1) (pg_tupK (K := K) (n := 4) rfl rfl (pgs_cons (pg_name (i := 3) sc_next_strip.nd rfl (.inl rfl)) (pgs_cons (pg_name (i := 4) sc_next_strip.nd rfl (.inl rfl)) (pgs_cons (pg_name (i := 5) sc_next_strip.nd rfl (.inl rfl)) (pgs_cons (pg_name (i := 6) sc_next_strip.nd rfl (.inl rfl)) pgs_nil))))))
      (pss_cons (ps_set (i := 7) sc_next_strip.nd rfl (.inl rfl) (pe_op op_orNN (pe_op op_orNN (pe_op op_orNN (pv 3) (pv 4)) (pv 5)) (pv 6)))
      (pss_cons (ps_set (i := 8) sc_next_strip.nd rfl (.inl rfl) (pe_op op_xorNN (pv 7) (pv 3)))
      (pss_cons (ps_set (i := 9) sc_next_strip.nd rfl (.inl rfl) (pe_op op_xorNN (pv 7) (pv 4)))
      (pss_cons (ps_set (i := 10) sc_next_strip.nd rfl (.inl rfl) (pe_tup (pa_cons (pe_op op_andNN (pv 8) (pv 9)) (pa_cons (pe_op op_andNN (pv 3) (pv 9)) (pa_cons (pe_op op_andNN (pv 8) (pv 4)) (pa_cons (pe_op op_andNN (pv 3) (pv 4)) pa_nil))))))
      (pss_cons (ps_set (i := 11) sc_next_strip.nd rfl (.inl rfl) (pe_tup (pa_cons (pe_op op_xorNN (pv 7) (pe_op op_orNN (pv 5) (pv 6))) (pa_cons (pv 5) (pa_cons (pv 6) pa_nil)))))
      (pss_cons (ps_set (i := 12) sc_next_strip.nd rfl (.inl rfl) pe_int)
      (pss_cons (ps_for PassesOwn.never rfl (pi_tup (pe_fld (pv 2) rfl)) (pg_name (i := 13) sc_next_strip.nd rfl (.inl rfl))
      (pss_one (ps_aug (i := 12) sc_next_strip.nd rfl (.inl rfl) (pe_op op_andNN (pe_ix (ix_tupK (K := K) rfl) (pv 10) (pe_op op_andNN (pv 13) pe_int) (fun _ _ => rfl)) (pe_ix (ix_tupK (K := K) rfl) (pv 11) (pe_op op_shrNN (pv 13) pe_int) (fun _ _ => rfl))) ip_orNN)))
      (pss_cons (ps_set (i := 14) sc_next_strip.nd rfl (.inl rfl) pe_int)
      (pss_cons (ps_for PassesOwn.never rfl (pi_tup (pe_fld (pv 2) rfl)) (pg_name (i := 13) sc_next_strip.nd rfl (.inl rfl))
      (pss_cons (ps_set (i := 15) sc_next_strip.nd rfl (.inl rfl) (pe_op op_add (pv 13) pe_int))
      (pss_one (ps_aug (i := 14) sc_next_strip.nd rfl (.inl rfl) (pe_op op_andNN (pe_ix (ix_tupK (K := K) rfl) (pv 10) (pe_op op_andNN (pv 15) pe_int) (fun _ _ => rfl)) (pe_ix (ix_tupK (K := K) rfl) (pv 11) (pe_op op_shrNN (pv 15) pe_int) (fun _ _ => rfl))) ip_orNN))))
      (pss_one (ps_ret (pe_op op_orNN (pe_op op_andNN (pv 12) (pe_op op_xorNN (pv 7) (pv 0))) (pe_op op_andNN (pv 14) (pv 0))))))))))))))), ?_⟩
    k_upd
    refine ⟨_, rfl, pt, _, rfl, tup_of hp, rfl, _, _, rfl, _, _, rfl, _, _, rfl, _, _, rfl, rfl, ?_⟩
    k_upd
    refine ⟨_, rfl, _, rfl, _, _, rfl, rfl, _, rfl, _, _, rfl, rfl, _, rfl, _, _, rfl, rfl, ?_⟩
    k_upd
    refine ⟨_, rfl, _, rfl, _, _, rfl, rfl, ?_⟩
    k_upd
    refine ⟨_, rfl, _, rfl, _, _, rfl, rfl, ?_⟩
    k_upd
    refine ⟨_, rfl, _, rfl, _, _, rfl, rfl, _, rfl, _, rfl, _, _, rfl, rfl, _, rfl, _, rfl, _, _, rfl, rfl, _, rfl, _, rfl, _, _, rfl, rfl, (by k_clsL), fun pl nl => ?_⟩
    k_upd
    k_invariant "new" (nl, H1, e1, h1)
    refine ⟨_, rfl, _, rfl, _, rfl, _, _, rfl, rfl, _, _, rfl, rfl, _, rfl, _, rfl, (by k_clsL), fun ph nh => ?_⟩
    k_upd
    k_invariant "new" (nh, H2, e2, h2)
    have h1 := e2 _ _ h1
    obtain ⟨dx, tb, ts, r1, r2, r3⟩ := hR.up (e1.trans e2)
    refine ⟨_, rfl, r, _, _, _, _, rfl, r1, T.cl_Rule, T.na_Rule_births, rf_b _ _, tb, rfl, ⟨_, tup_of r2⟩, ?_⟩
    refine for_it (walk_tup (K := K) (a := tb) (xs := bs.map V.int)) (fun i σ H' => H' = H2 ∧ ∃ n : Option V, σ = [some (.int (alive : Int)), some (.ref pt), some (.ref r), some (.int (o : Int)), some (.int (t : Int)), some (.int (f : Int)), some (.int (e : Int)), some (.int (near9 o t f e : Nat)), some (.int ((near9 o t f e ^^^ o : Nat))), some (.int ((near9 o t f e ^^^ t : Nat))), some (.ref pl), some (.ref ph), some (.int (picks o t f e ((bs.take i).map Int.toNat) : Nat)), n, none, none])
      ⟨rfl, _, rfl⟩ (fun i σ H' _ p => by rw [p.1]; exact tup_of r2) ?_ ?_
    · rintro i x σ H' H'' hi ⟨rfl, n, rfl⟩ ⟨rfl, hx⟩
      obtain ⟨z, rfl, hz, mz⟩ := item_ints hx
      have bz := bb z mz
      obtain ⟨m, rfl⟩ := Int.eq_ofNat_of_zero_le bz.1
      have m4 : m % 4 < 4 := Nat.mod_lt _ (by decide)
      have m3 : m / 4 < 3 := by omega
      refine ⟨_, rfl, _, rfl, _, rfl, m, 3, rfl, rfl, pl, _, _, _, rfl, rfl, tup_of h1, (by rw [and3]; exact at_low o t f e m4), ?_⟩
      refine ⟨_, rfl, _, rfl, m, 2, rfl, rfl, ph, _, _, _, rfl, rfl, tup_of h2, (by rw [shr2]; exact at_high o t f e m3), _, _, rfl, rfl, ?_⟩
      refine ⟨_, _, rfl, rfl, ?_⟩
      k_upd
      refine ⟨trivial, some (.int (m : Int)), ?_⟩
      rw [take_next hz, List.map_append]
      unfold picks
      rw [List.foldl_append]
      rfl
    · rintro σ H' ⟨rfl, n, rfl⟩
      rw [List.length_map, List.take_of_length_le (Nat.le_refl _)]
      refine ⟨_, rfl, r, _, _, _, _, rfl, r1, T.cl_Rule, T.na_Rule_survival, rf_s _ _, ts, rfl, ⟨_, tup_of r3⟩, ?_⟩
      refine for_it (walk_tup (K := K) (a := ts) (xs := ss.map V.int)) (fun i σ H'' => H'' = H' ∧ ∃ n n2 : Option V, σ = [some (.int (alive : Int)), some (.ref pt), some (.ref r), some (.int (o : Int)), some (.int (t : Int)), some (.int (f : Int)), some (.int (e : Int)), some (.int (near9 o t f e : Nat)), some (.int ((near9 o t f e ^^^ o : Nat))), some (.int ((near9 o t f e ^^^ t : Nat))), some (.ref pl), some (.ref ph), some (.int (picks o t f e (bs.map Int.toNat) : Nat)), n, some (.int (picks o t f e ((ss.take i).map fun n => n.toNat + 1) : Nat)), n2])
        ⟨rfl, _, _, rfl⟩ (fun i σ H'' _ p => by rw [p.1]; exact tup_of r3) ?_ ?_
      · rintro i x σ H3 H4 hi ⟨rfl, n, n2, rfl⟩ ⟨rfl, hx⟩
        obtain ⟨z, rfl, hz, mz⟩ := item_ints hx
        have bz := bss z mz
        obtain ⟨m, rfl⟩ := Int.eq_ofNat_of_zero_le bz.1
        have m4 : (m + 1) % 4 < 4 := Nat.mod_lt _ (by decide)
        have m3 : (m + 1) / 4 < 3 := by omega
        refine ⟨_, rfl, _, _, rfl, rfl, ?_⟩
        refine ⟨_, rfl, _, rfl, _, rfl, m + 1, 3, rfl, rfl, pl, _, _, _, rfl, rfl, tup_of h1, (by rw [and3]; exact at_low o t f e m4), ?_⟩
        refine ⟨_, rfl, _, rfl, m + 1, 2, rfl, rfl, ph, _, _, _, rfl, rfl, tup_of h2, (by rw [shr2]; exact at_high o t f e m3), _, _, rfl, rfl, ?_⟩
        refine ⟨_, _, rfl, rfl, ?_⟩
        k_upd
        refine ⟨trivial, some (.int (m : Int)), some (.int ((m : Int) + 1)), ?_⟩
        rw [take_next hz, List.map_append]
        unfold picks
        rw [List.foldl_append]
        rfl
      · rintro σ H3 ⟨rfl, n, n2, rfl⟩
        rw [List.length_map, List.take_of_length_le (Nat.le_refl _)]
        exact ⟨_, rfl, _, rfl, _, rfl, _, _, rfl, rfl, _, _, rfl, rfl, _, rfl, _, rfl, _, _, rfl, rfl, _, _, rfl, rfl, q _ (e1.trans e2)⟩
end
end My
namespace My
open PySem PySem.Spec PyProof.Rows L2 Vx
open TL
local macro_rules | `(tactic| k_invariant "new" ($n, $H:ident, $e:ident, $h:ident)) => `(tactic| (generalize hE : upd _ _ _ = $H; obtain ⟨$e:ident, $h:ident⟩ := gen_e hE $n; clear hE))
local macro_rules | `(tactic| k_places) => `(tactic| first
  | assumption
  | exact lst_of (by assumption)
  | exact tup_of (by assumption)
  | (refine getS (by assumption) ?_; k_places)
  | (refine Same.seq (by assumption) ?_; k_places)
  | (refine tupS (by assumption) ?_; k_places)
  | (refine lst_of ?_; k_places)
  | (refine tup_of ?_; k_places))
local macro_rules | `(tactic| k_subL) => `(tactic| first
  | k_places
  | solve_by_elim (maxDepth := 10) [getS, lst_of, tup_of, Same.seq, tupS])
local macro_rules | `(tactic| k_offL) => `(tactic| first
  | (show (0 : Int) < _; first | omega | decide)
  | (refine ⟨?_, ?_⟩ <;> first | omega | decide)
  | exact .inr ⟨by decide, by decide⟩
  | exact .inl ⟨by decide, by decide⟩
  | exact .inl ⟨by omega, by omega⟩
  | omega)
local macro_rules | `(tactic| k_clsL) => `(tactic| exact Nat.le_of_ble_eq_true rfl)
local macro_rules | `(tactic| k_upd) => `(tactic| simp only [L2.start, List.map_cons, List.map_nil, List.length_cons, List.length_nil, List.replicate_succ, List.replicate_zero, List.cons_append, List.nil_append, List.set_cons_zero, List.set_cons_succ])
section
variable {P : Program} {w : World} {K : PySem.W.Frag} {mg : Str → Option Value} {base : Heap}
/-! ### floors: all in strip 0 of each row -/
def Floor (H : Hp) (d : Addr) (ps : List Pr) (S : Int → Nat) : Prop :=
  Dct H d ps (fun x => .int ((S x.1 : Nat) : Int)) ∧ (∀ x ∈ ps, x.2 = 0) ∧ ∀ r, (r, 0) ∉ ps → S r = 0
theorem Floor.up {H H' : Hp} {d : Addr} {ps : List Pr} {S : Int → Nat} (e : Same H H') (h : Floor H d ps S) : Floor H' d ps S := ⟨h.1.up e, h.2⟩
theorem Floor.get {H : Hp} {d b : Addr} {ps : List Pr} {S : Int → Nat} {r : Int} (h : Floor H d ps S) (e : H b = some (.tup [.int r, .int 0])) : DGet H d (.ref b) (if (r, 0) ∈ ps then some (.int ((S r : Nat) : Int)) else none) := h.1.dget (x := (r, 0)) e
theorem Floor.getD {ps : List Pr} {S : Int → Nat} {r : Int} (h : ∀ r, (r, 0) ∉ ps → S r = 0) : (if (r, 0) ∈ ps then some (V.int ((S r : Nat) : Int)) else none).getD (.int 0) = .int ((S r : Nat) : Int) := by
  by_cases m : (r, (0 : Int)) ∈ ps
  · rw [if_pos m]
    rfl
  · rw [if_neg m, h r m]
    rfl
/-- another strip than 0 -/
theorem Floor.off {H : Hp} {d b : Addr} {ps : List Pr} {S : Int → Nat} {r a : Int} (h : Floor H d ps S) (e : H b = some (.tup [.int r, .int a])) (na : a ≠ 0) : DGet H d (.ref b) none := by
  have z := h.1.dget (x := (r, a)) e
  rwa [if_neg fun m => na (h.2.1 _ m)] at z
theorem Floor.put {H H' : Hp} {d : Addr} {qs : List Pr} {S : Int → Nat} {row : Int} {v : Nat} (hF : Floor H d qs S) (pa : PutAt H d qs (fun x => V.int ((S x.1 : Nat) : Int)) (row, 0) (.int (v : Int)) H') :
    Floor H' d (addK qs (row, 0)) (fun r => if r = row then v else S r) := by
  refine ⟨pa.1.congr fun x m => ?_, fun x m => ?_, fun r nm => ?_⟩
  · have x0 : x.2 = 0 := (mem_addK.mp m).elim (hF.2.1 x) fun e => by rw [e]
    unfold setG
    by_cases e : x = (row, 0)
    · rw [if_pos e, e]
      dsimp only
      rw [if_pos rfl]
    · have e1 : ¬ x.1 = row := fun z => e (Prod.ext z x0)
      rw [if_neg e]
      dsimp only
      rw [if_neg e1]
  · exact (mem_addK.mp m).elim (hF.2.1 x) fun e => by rw [e]
  · have n1 : (r, (0 : Int)) ∉ qs := fun z => nm (mem_addK.mpr (.inl z))
    have n2 : ¬ r = row := fun z => nm (mem_addK.mpr (.inr (by rw [z])))
    dsimp only
    rw [if_neg n2]
    exact hF.2.2 r n1
def sp_floor_of : Sp := fun vs H Q _ => ∃ (l : Addr) (first : Int) (ps : List Pr), vs = [.ref l, .int first] ∧ Cells H l ps ∧ ps.length < 10000 ∧ (∀ x ∈ ps, 0 ≤ x.2 - first ∧ x.2 - first < 2048) ∧
  ∀ (H' : Hp) (d : Addr) (qs : List Pr) (S : Int → Nat), H d = none → Same H H' → Floor H' d qs S → (∀ r j, (S r).testBit j = true ↔ ∃ x ∈ ps, x.1 = r ∧ x.2 - first = (j : Int)) → (∀ x ∈ qs, ∃ y ∈ ps, y.1 = x.1) → Q (.ref d) H'
theorem ok_floor_of (T : Txt K mg) : FnOk P w K mg base CX0 1 T.f_floor_of T.d_floor_of ["cells", "first"] sp_floor_of := by
  refine T.F_floor_of.ok sc_floor_of (fun vs H Q E h => ?_) (fun cdv A outer s H vs Q E hr h => ?_)
  · obtain ⟨_, _, _, rfl, _⟩ := h
    rfl
  · obtain ⟨l, first, ps, rfl, hC, few, inS, q⟩ := h
    have hu : (A.deeper (envOfC (Str.ofString "floor_of") (defScope s_floor_of) s.heap.objs.size T.f_floor_of cdv)).units + 1 < cLine := by
      have := hr.units
      omega
    refine ⟨_, (pss_cons (ps_set (i := 2) sc_floor_of.nd rfl (.inl rfl) pe_dnewT)
      (pss_cons (ps_for PassesOwn.never rfl (pi_list (pv 0)) (pg_tupK (K := K) (n := 2) rfl rfl (pgs_cons (pg_name (i := 3) sc_floor_of.nd rfl (.inl rfl)) (pgs_cons (pg_name (i := 4) sc_floor_of.nd rfl (.inl rfl)) pgs_nil)))
      (pss_cons (ps_asg (pe_callB call_divmod (by rfl) T.z_divmod (by decide +kernel) (pa_cons (pe_op op_sub (pv 4) (pv 1)) (pa_cons (pe_gcx (by rfl) T.c_WIDTH) pa_nil))) (pg_tupK (K := K) (n := 2) rfl rfl (pgs_cons (pg_name (i := 5) sc_floor_of.nd rfl (.inl rfl)) (pgs_cons (pg_name (i := 6) sc_floor_of.nd rfl (.inl rfl)) pgs_nil))))
      (pss_one (ps_dput hu (pv 2) (pe_tup (pa_cons (pv 3) (pa_cons (pv 5) pa_nil))) (pe_op op_orNN (pe_dget2 hu (pv 2) (pe_tup (pa_cons (pv 3) (pa_cons (pv 5) pa_nil))) pe_int ⟨rfl, rfl, rfl, rfl⟩) (pe_op op_shlNN pe_int (pv 6))) rfl))))
      (pss_one (ps_ret (pv 2))))), ?_⟩
    k_upd
    obtain ⟨ts, hl, ht, ets⟩ := id hC
    refine fun d nd => ?_
    k_invariant "new" (nd, H1, e1, g1)
    k_upd
    have lts : ts.length = ps.length := by rw [← ets, List.length_map]
    refine ⟨_, rfl, l, rfl, ⟨_, lst_of (e1 _ _ hl)⟩, ?_⟩
    refine for_list (K := K) (a := l) (xs := ts.map fun t => V.ref t.1) (fun i σ H' => Same H H' ∧ (∃ x3 x4 x5 x6 : Option V, σ = [some (.ref l), some (.int first), some (.ref d), x3, x4, x5, x6]) ∧
      ∃ (qs : List Pr) (S : Int → Nat), Floor H' d qs S ∧ (∀ r j, (S r).testBit j = true ↔ ∃ x ∈ ps.take i, x.1 = r ∧ x.2 - first = (j : Int)) ∧ (∀ x ∈ qs, ∃ y ∈ ps, y.1 = x.1) ∧ qs.length ≤ i)
      ⟨e1, ⟨_, _, _, _, rfl⟩, [], fun _ => 0, ⟨Dct.new _ g1, fun _ m => (by cases m), fun _ _ => rfl⟩, fun r j => by simp, fun _ m => (by cases m), Nat.le_refl _⟩ (fun i σ H' _ p => lst_of (p.1 _ _ hl)) ?_ ?_
    · rintro i x σ H' hi ⟨sm, ⟨x3, x4, x5, x6, rfl⟩, qs, S, hF, hS, hq, lq⟩
      obtain ⟨t, mt, rfl, hx⟩ := item_cells (H := H') hi rfl
      rw [ets] at hx
      have li : i < ps.length := (List.getElem?_eq_some_iff.mp hx).1
      have bt := inS _ (List.mem_of_getElem? hx)
      have ht' := sm _ _ (ht t mt)
      obtain ⟨⟨ta, row, col⟩, ht''⟩ : ∃ t' : Addr × Pr, t' = t := ⟨t, rfl⟩
      subst ht''
      dsimp only at bt ht' hx
      have d0 : (col - first) / 2048 = 0 := by omega
      obtain ⟨k, ek⟩ := Int.eq_ofNat_of_zero_le bt.1
      have d1 : (col - first) % 2048 = (k : Int) := by omega
      have kl : k < 2048 := by omega
      refine ⟨ta, _, rfl, tup_of ht', rfl, _, _, rfl, _, _, rfl, rfl, ?_⟩
      k_upd
      refine ⟨_, rfl, _, rfl, _, _, rfl, rfl, _, _, rfl, ⟨by decide, by decide⟩, fun p1 n1 => ?_⟩
      rw [d0, d1]
      k_invariant "new" (n1, H2, e2, g2)
      refine ⟨p1, _, rfl, tup_of g2, rfl, _, _, rfl, _, _, rfl, rfl, ?_⟩
      k_upd
      refine ⟨_, rfl, d, rfl, (hF.up e2).1.isD, _, rfl, _, rfl, (by k_clsL), fun p3 n3 => ?_⟩
      k_invariant "new" (n3, H3, e3, g3)
      refine ⟨_, (hF.up (e2.trans e3)).get g3, ?_⟩
      rw [Floor.getD hF.2.2]
      refine ⟨_, rfl, 1, k, 1, rfl, rfl, by decide, by omega, _, _, rfl, rfl, _, rfl, _, rfl, _, rfl, (by k_clsL), fun p4 n4 => ?_⟩
      k_invariant "new" (n4, H4, e4, g4)
      have hF4 := hF.up (e2.trans (e3.trans e4))
      obtain ⟨H5, dp, pa⟩ := hF4.1.dput (x := (row, 0)) (by rw [sizeLine_eq]; omega) g4 (.int ((S row ||| 1 <<< k : Nat) : Int))
      refine ⟨d, H5, rfl, dp, pa.mut (sm.trans (e2.trans (e3.trans e4))) nd, ⟨_, _, _, _, rfl⟩, addK qs (row, 0), fun r => if r = row then S row ||| 1 <<< k else S r, hF4.put pa, fun r j => ?_, fun x m => ?_, Nat.le_trans addK_len (Nat.add_le_add_right lq 1)⟩
      · rw [take_next hx]
        show (if r = row then S row ||| 1 <<< k else S r).testBit j = true ↔ _
        constructor
        · intro h
          by_cases e : r = row
          · rw [if_pos e, Nat.testBit_or, Nat.one_shiftLeft, Nat.testBit_two_pow, Bool.or_eq_true] at h
            rcases h with h | h
            · obtain ⟨x, m, a, b⟩ := (hS _ _).mp h
              exact ⟨x, List.mem_append.mpr (.inl m), by rw [e]; exact a, b⟩
            · have h := of_decide_eq_true h
              exact ⟨(row, col), List.mem_append.mpr (.inr (List.mem_singleton.mpr rfl)), e.symm, by rw [← h]; exact ek⟩
          · rw [if_neg e] at h
            obtain ⟨x, m, a, b⟩ := (hS _ _).mp h
            exact ⟨x, List.mem_append.mpr (.inl m), a, b⟩
        · rintro ⟨x, m, a, b⟩
          rcases List.mem_append.mp m with m | m
          · have h := (hS r j).mpr ⟨x, m, a, b⟩
            by_cases e : r = row
            · rw [if_pos e, Nat.testBit_or, ← e, h, Bool.true_or]
            · rw [if_neg e]
              exact h
          · rw [List.mem_singleton.mp m] at a b
            have a : row = r := a
            have b : col - first = (j : Int) := b
            have jk : k = j := by omega
            rw [if_pos a.symm, Nat.testBit_or, Nat.one_shiftLeft, Nat.testBit_two_pow, decide_eq_true jk, Bool.or_true]
      · rcases mem_addK.mp m with m | e
        · exact hq x m
        · exact ⟨(row, col), List.mem_of_getElem? hx, by rw [e]⟩
    · rintro σ H' ⟨sm, ⟨x3, x4, x5, x6, rfl⟩, qs, S, hF, hS, hq, lq⟩
      refine ⟨_, rfl, q H' d qs S nd sm hF (fun r j => ?_) hq⟩
      rw [hS, List.length_map, List.take_of_length_le (by omega)]
end
end My
namespace My
open PySem PySem.Spec PyProof.Rows L2 Vx
open TL
local macro_rules | `(tactic| k_invariant "new" ($n, $H:ident, $e:ident, $h:ident)) => `(tactic| (generalize hE : upd _ _ _ = $H; obtain ⟨$e:ident, $h:ident⟩ := gen_e hE $n; clear hE))
local macro_rules | `(tactic| k_places) => `(tactic| first
  | assumption
  | exact lst_of (by assumption)
  | exact tup_of (by assumption)
  | (refine getS (by assumption) ?_; k_places)
  | (refine Same.seq (by assumption) ?_; k_places)
  | (refine tupS (by assumption) ?_; k_places)
  | (refine lst_of ?_; k_places)
  | (refine tup_of ?_; k_places))
local macro_rules | `(tactic| k_subL) => `(tactic| first
  | k_places
  | solve_by_elim (maxDepth := 10) [getS, lst_of, tup_of, Same.seq, tupS])
local macro_rules | `(tactic| k_offL) => `(tactic| first
  | (show (0 : Int) < _; first | omega | decide)
  | (refine ⟨?_, ?_⟩ <;> first | omega | decide)
  | exact .inr ⟨by decide, by decide⟩
  | exact .inl ⟨by decide, by decide⟩
  | exact .inl ⟨by omega, by omega⟩
  | omega)
local macro_rules | `(tactic| k_clsL) => `(tactic| exact Nat.le_of_ble_eq_true rfl)
local macro_rules | `(tactic| k_upd) => `(tactic| simp only [L2.start, List.map_cons, List.map_nil, List.length_cons, List.length_nil, List.replicate_succ, List.replicate_zero, List.cons_append, List.nil_append, List.set_cons_zero, List.set_cons_succ])
section
variable {P : Program} {w : World} {K : PySem.W.Frag} {mg : Str → Option Value} {base : Heap}
theorem keys_true {H H' : Hp} {d : Addr} {ps : List Pr} {i : Nat} {x : Pr} (nd : ps.Nodup) (h : ps[i]? = some x) (pa : PutAt H d (ps.take i) (fun _ => V.bl true) x (.bl true) H') : Dct H' d (ps.take (i + 1)) (fun _ => V.bl true) := by
  rw [← addK_take nd h]
  refine pa.1.congr fun y _ => ?_
  unfold setG
  by_cases e : y = x
  · rw [if_pos e]
  · rw [if_neg e]
theorem tru0 {K : PySem.W.Frag} {H : Hp} {n : Nat} (h : n = 0) : TruV K (.int ((n : Nat) : Int)) H false := by
  subst h
  rfl
theorem tru1 {K : PySem.W.Frag} {H : Hp} {n : Nat} (h : n ≠ 0) : TruV K (.int ((n : Nat) : Int)) H true := by
  show true = (((n : Nat) : Int) != 0)
  have : ((n : Nat) : Int) ≠ 0 := by omega
  exact (bne_iff_ne.mpr this).symm
def sp_with_strips_beside : Sp := fun vs H Q _ => ∃ (d : Addr) (ps : List Pr) (S : Int → Nat), vs = [.ref d] ∧ Floor H d ps S ∧ ps.length < 10000 ∧ (∀ r, S r &&& 1 = 0) ∧ (∀ r, S r >>> 2047 = 0) ∧
  ∀ (H' : Hp) (p : Addr), H p = none → Same H H' → Cells H' p ps → Q (.ref p) H'
theorem ok_with_strips_beside (T : Txt K mg) : FnOk P w K mg base CX0 1 T.f_with_strips_beside T.d_with_strips_beside ["floor"] sp_with_strips_beside := by
  refine T.F_with_strips_beside.ok sc_with_strips_beside (fun vs H Q E h => ?_) (fun cdv A outer s H vs Q E hr h => ?_)
  · obtain ⟨_, _, _, rfl, _⟩ := h
    rfl
  · obtain ⟨d, ps, S, rfl, hF, few, b0, b1, q⟩ := h
    have hu : (A.deeper (envOfC (Str.ofString "_with_strips_beside") (defScope s_with_strips_beside) s.heap.objs.size T.f_with_strips_beside cdv)).units + 1 < cLine := by
      have := hr.units
      omega
    refine ⟨_, (pss_cons (ps_set (i := 1) sc_with_strips_beside.nd rfl (.inl rfl) (pe_op op_sub (pe_gcx (by rfl) T.c_WIDTH) pe_int))
      (pss_cons (ps_set (i := 2) sc_with_strips_beside.nd rfl (.inl rfl) pe_dnewT)
      (pss_cons (ps_lock (ps_for PassesOwn.never rfl (pi_itemsT (pv 0)) (pg_tupK (K := K) (n := 2) rfl rfl (pgs_cons (pg_tupK (K := K) (n := 2) rfl rfl (pgs_cons (pg_name (i := 3) sc_with_strips_beside.nd rfl (.inl rfl)) (pgs_cons (pg_name (i := 4) sc_with_strips_beside.nd rfl (.inl rfl)) pgs_nil))) (pgs_cons (pg_name (i := 5) sc_with_strips_beside.nd rfl (.inl rfl)) pgs_nil)))
      (pss_cons (ps_dput hu (pv 2) (pe_tup (pa_cons (pv 3) (pa_cons (pv 4) pa_nil))) pe_bl rfl)
      (pss_cons (ps_if (pt_truth (pe_op op_andNN (pv 5) pe_int) (by intro _; rfl))
      (pss_one (ps_dput hu (pv 2) (pe_tup (pa_cons (pv 3) (pa_cons (pe_op op_sub (pv 4) pe_int) pa_nil))) pe_bl rfl))
      pss_nil)
      (pss_one (ps_if (pt_truth (pe_op op_shrNN (pv 5) (pv 1)) (by intro _; rfl))
      (pss_one (ps_dput hu (pv 2) (pe_tup (pa_cons (pv 3) (pa_cons (pe_op op_add (pv 4) pe_int) pa_nil))) pe_bl rfl))
      pss_nil))))))
      (pss_one (ps_ret (pe_callTy (cr_listP rfl) (by rfl) T.z_list (by decide +kernel) (pa_cons (pv 2) pa_nil))))))), ?_⟩
    k_upd
    obtain ⟨kvs, hd, hm⟩ := id hF.1
    refine ⟨_, _, rfl, rfl, fun kd nk => ?_⟩
    k_invariant "new" (nk, H1, e1, g1)
    k_upd
    have nekd : kd ≠ d := fun e => by rw [e, hd] at nk; cases nk
    refine ⟨d, _, e1 _ _ hd, trivial, fun od => ⟨_, rfl, d, od, kvs, rfl, upd_same, ?_⟩⟩
    obtain ⟨Hf, hHf⟩ : ∃ Hf, Hf = upd H d (.frz od (.dT kvs)) := ⟨_, rfl⟩
    have gf : Hf d = some (.frz od (.dT kvs)) := by rw [hHf, upd_same]
    have nf : Hf kd = none := by rw [hHf, upd_ne nekd]; exact nk
    refine for_it walk_itemsT (fun i σ H' => Same Hf H' ∧ (∃ x3 x4 x5 : Option V, σ = [some (.ref d), some (.int 2047), some (.ref kd), x3, x4, x5]) ∧ Dct H' kd (ps.take i) (fun _ => .bl true))
      ⟨by rw [hHf]; exact updS e1, ⟨_, _, _, rfl⟩, (Dct.new _ g1).off nekd⟩ (fun i σ H' _ p => p.1 _ _ gf) ?_ ?_
    · rintro i x σ H2 H3 hi ⟨sm, ⟨x3, x4, x5, rfl⟩, hK⟩ ⟨tt, k, v, q0, e, rfl, hq0, nt, rfl⟩
      obtain ⟨z, hz, rfl, rfl⟩ := hm.at e
      have li : i < ps.length := (List.getElem?_eq_some_iff.mp hz).1
      obtain ⟨row, c0⟩ := z
      have z0 : c0 = 0 := hF.2.1 _ (List.mem_of_getElem? hz)
      subst z0
      k_invariant "new" (nt, H3, e3, g3)
      have hq3 : H3 q0 = some (.tup [.int row, .int 0]) := e3 _ _ hq0
      refine ⟨tt, _, rfl, tup_of g3, rfl, _, _, rfl, ⟨q0, _, rfl, tup_of hq3, rfl, _, _, rfl, _, _, rfl, rfl, _, _, rfl, rfl, ?_⟩⟩
      k_upd
      refine ⟨_, rfl, _, rfl, _, rfl, (by k_clsL), fun p4 n4 => ?_⟩
      k_invariant "new" (n4, H4, e4, g4)
      obtain ⟨H5, dp, pa⟩ := (hK.up (e3.trans e4)).dput (x := (row, 0)) (by rw [List.length_take, sizeLine_eq]; omega) g4 (.bl true)
      refine ⟨kd, H5, rfl, dp, ?_⟩
      k_upd
      refine ⟨_, rfl, S row, 1, rfl, rfl, _, tru0 (b0 row), iteF ?_⟩
      refine ⟨_, rfl, _, rfl, S row, 2047, rfl, rfl, _, tru0 (b1 row), iteF ?_⟩
      exact ⟨pa.mut (sm.trans (e3.trans e4)) nf, ⟨_, _, _, rfl⟩, keys_true hm.2 hz pa⟩
    · rintro σ H2 ⟨sm, ⟨x3, x4, x5, rfl⟩, hK⟩
      rw [hm.len, List.take_of_length_le (Nat.le_refl _)] at hK
      have gd2 := sm _ _ gf
      rw [hHf] at sm
      refine ⟨gd2, ?_⟩
      refine ⟨_, rfl, kd, ps, _, rfl, hK.off nekd, fun H3 p s3 n3 c3 => q H3 p ?_ ((unlock hd sm).trans s3) c3⟩
      exact backS (unlock hd sm) n3
def sp_with_rows_beside : Sp := fun vs H Q _ => ∃ (d : Addr) (ps : List Pr) (g : Pr → V), vs = [.ref d] ∧ Dct H d ps g ∧ (∀ x ∈ ps, x.2 = 0) ∧ ps.length < 10000 ∧
  ∀ (H' : Hp) (p : Addr) (qs : List Pr), H p = none → Same H H' → Cells H' p qs → qs.Nodup → (∀ x, x ∈ qs ↔ x.2 = 0 ∧ ∃ y ∈ ps, x.1 = y.1 - 1 ∨ x.1 = y.1 ∨ x.1 = y.1 + 1) → qs.length ≤ 3 * ps.length → Q (.ref p) H'
theorem ok_with_rows_beside (T : Txt K mg) : FnOk P w K mg base CX0 1 T.f_with_rows_beside T.d_with_rows_beside ["sums"] sp_with_rows_beside := by
  refine T.F_with_rows_beside.ok sc_with_rows_beside (fun vs H Q E h => ?_) (fun cdv A outer s H vs Q E hr h => ?_)
  · obtain ⟨_, _, _, rfl, _⟩ := h
    rfl
  · obtain ⟨d, ps, g, rfl, hD, z0, few, q⟩ := h
    have hu : (A.deeper (envOfC (Str.ofString "_with_rows_beside") (defScope s_with_rows_beside) s.heap.objs.size T.f_with_rows_beside cdv)).units + 1 < cLine := by
      have := hr.units
      omega
    refine ⟨_, (pss_cons (ps_set (i := 1) sc_with_rows_beside.nd rfl (.inl rfl) pe_dnewT)
      (pss_cons (ps_lock (ps_for PassesOwn.never rfl (pi_keys (pv 0)) (pg_tupK (K := K) (n := 2) rfl rfl (pgs_cons (pg_name (i := 2) sc_with_rows_beside.nd rfl (.inl rfl)) (pgs_cons (pg_name (i := 3) sc_with_rows_beside.nd rfl (.inl rfl)) pgs_nil)))
      (pss_cons (ps_dput hu (pv 1) (pe_tup (pa_cons (pe_op op_sub (pv 2) pe_int) (pa_cons (pv 3) pa_nil))) pe_bl rfl)
      (pss_cons (ps_dput hu (pv 1) (pe_tup (pa_cons (pv 2) (pa_cons (pv 3) pa_nil))) pe_bl rfl)
      (pss_one (ps_dput hu (pv 1) (pe_tup (pa_cons (pe_op op_add (pv 2) pe_int) (pa_cons (pv 3) pa_nil))) pe_bl rfl))))))
      (pss_one (ps_ret (pe_callTy (cr_listP rfl) (by rfl) T.z_list (by decide +kernel) (pa_cons (pv 1) pa_nil)))))), ?_⟩
    k_upd
    obtain ⟨kvs, hd, hm⟩ := id hD
    refine fun kd nk => ?_
    k_invariant "new" (nk, H1, e1, g1)
    k_upd
    have nekd : kd ≠ d := fun e => by rw [e, hd] at nk; cases nk
    refine ⟨d, _, e1 _ _ hd, trivial, fun od => ⟨_, rfl, d, od, rfl, .inr ⟨kvs, upd_same, ?_⟩⟩⟩
    obtain ⟨Hf, hHf⟩ : ∃ Hf, Hf = upd H d (.frz od (.dT kvs)) := ⟨_, rfl⟩
    have gf : Hf d = some (.frz od (.dT kvs)) := by rw [hHf, upd_same]
    have nk2 : Hf kd = none := by rw [hHf, upd_ne nekd]; exact nk
    refine for_it walk_keysT (fun i σ H' => Same Hf H' ∧ (∃ x3 x4 : Option V, σ = [some (.ref d), some (.ref kd), x3, x4]) ∧ ∃ qs, Dct H' kd qs (fun _ => .bl true) ∧
        (∀ x, x ∈ qs ↔ x.2 = 0 ∧ ∃ y ∈ ps.take i, x.1 = y.1 - 1 ∨ x.1 = y.1 ∨ x.1 = y.1 + 1) ∧ qs.length ≤ 3 * i)
      ⟨by rw [hHf]; exact updS e1, ⟨_, _, rfl⟩, [], (Dct.new _ g1).off nekd, fun x => by simp, Nat.le_refl _⟩ (fun i σ H' _ p => p.1 _ _ gf) ?_ ?_
    · rintro i x σ H2 H3 hi ⟨sm, ⟨x3, x4, rfl⟩, qs, hK, mem, lq⟩ ⟨rfl, k, v, q0, e, rfl, hq0⟩
      obtain ⟨z, hz, rfl, rfl⟩ := hm.at e
      have li : i < ps.length := (List.getElem?_eq_some_iff.mp hz).1
      obtain ⟨row, c0⟩ := z
      have zz : c0 = 0 := z0 _ (List.mem_of_getElem? hz)
      subst zz
      have tr : ∀ (H H' : Hp) (qs : List Pr) (x : Pr), PutAt H kd qs (fun _ => V.bl true) x (.bl true) H' → Dct H' kd (addK qs x) (fun _ => V.bl true) := fun H H' qs x pa => pa.1.congr fun y _ => by
        unfold setG
        by_cases e : y = x
        · rw [if_pos e]
        · rw [if_neg e]
      refine ⟨q0, _, rfl, tup_of hq0, rfl, _, _, rfl, _, _, rfl, rfl, ?_⟩
      k_upd
      refine ⟨_, rfl, _, rfl, _, _, rfl, rfl, _, rfl, (by k_clsL), fun p4 n4 => ?_⟩
      k_invariant "new" (n4, H4, e4, g4)
      obtain ⟨H5, dp5, pa5⟩ := (hK.up e4).dput (x := (row - 1, 0)) (by rw [sizeLine_eq]; omega) g4 (.bl true)
      have s5 := pa5.mut (sm.trans e4) nk2
      have k5 := tr _ _ _ _ pa5
      refine ⟨kd, H5, rfl, dp5, ?_⟩
      k_upd
      refine ⟨_, rfl, _, rfl, _, rfl, (by k_clsL), fun p6 n6 => ?_⟩
      k_invariant "new" (n6, H6, e6, g6)
      have l5 := addK_len (ps := qs) (x := (row - 1, 0))
      obtain ⟨H7, dp7, pa7⟩ := (k5.up e6).dput (x := (row, 0)) (by rw [sizeLine_eq]; omega) g6 (.bl true)
      have s7 := pa7.mut (s5.trans e6) nk2
      have k7 := tr _ _ _ _ pa7
      refine ⟨kd, H7, rfl, dp7, ?_⟩
      k_upd
      refine ⟨_, rfl, _, rfl, _, _, rfl, rfl, _, rfl, (by k_clsL), fun p8 n8 => ?_⟩
      k_invariant "new" (n8, H8, e8, g8)
      have l7 := addK_len (ps := addK qs (row - 1, 0)) (x := (row, 0))
      obtain ⟨H9, dp9, pa9⟩ := (k7.up e8).dput (x := (row + 1, 0)) (by rw [sizeLine_eq]; omega) g8 (.bl true)
      have l9 := addK_len (ps := addK (addK qs (row - 1, 0)) (row, 0)) (x := (row + 1, 0))
      refine ⟨kd, H9, rfl, dp9, pa9.mut (s7.trans e8) nk2, ⟨_, _, rfl⟩, _, tr _ _ _ _ pa9, fun x => ?_, by omega⟩
      rw [mem_addK, mem_addK, mem_addK, mem, take_next hz]
      constructor
      · rintro (((⟨a, y, my, b⟩ | e) | e) | e)
        · exact ⟨a, y, List.mem_append.mpr (.inl my), b⟩
        all_goals rw [e]; exact ⟨rfl, (row, 0), List.mem_append.mpr (.inr (List.mem_singleton.mpr rfl)), by simp⟩
      · rintro ⟨a, y, my, b⟩
        rcases List.mem_append.mp my with my | my
        · exact .inl (.inl (.inl ⟨a, y, my, b⟩))
        · rw [List.mem_singleton.mp my] at b
          rcases b with b | b | b
          · exact .inl (.inl (.inr (Prod.ext b a)))
          · exact .inl (.inr (Prod.ext b a))
          · exact .inr (Prod.ext b a)
    · rintro σ H2 ⟨sm, ⟨x3, x4, rfl⟩, qs, hK, mem, lq⟩
      rw [hm.len] at lq
      rw [hm.len, List.take_of_length_le (Nat.le_refl _)] at mem
      have gd2 := sm _ _ gf
      rw [hHf] at sm
      refine ⟨gd2, ?_⟩
      refine ⟨_, rfl, kd, qs, _, rfl, hK.off nekd, fun H3 p s3 n3 c3 => q H3 p qs (backS (unlock hd sm) n3) ((unlock hd sm).trans s3) c3 hK.choose_spec.2.2 mem lq⟩
end
end My
namespace My
open PySem PySem.Spec PyProof.Rows L2 Vx
open TL
local macro_rules | `(tactic| k_invariant "new" ($n, $H:ident, $e:ident, $h:ident)) => `(tactic| (generalize hE : upd _ _ _ = $H; obtain ⟨$e:ident, $h:ident⟩ := gen_e hE $n; clear hE))
local macro_rules | `(tactic| k_places) => `(tactic| first
  | assumption
  | exact lst_of (by assumption)
  | exact tup_of (by assumption)
  | (refine getS (by assumption) ?_; k_places)
  | (refine Same.seq (by assumption) ?_; k_places)
  | (refine tupS (by assumption) ?_; k_places)
  | (refine lst_of ?_; k_places)
  | (refine tup_of ?_; k_places))
local macro_rules | `(tactic| k_subL) => `(tactic| first
  | k_places
  | solve_by_elim (maxDepth := 10) [getS, lst_of, tup_of, Same.seq, tupS])
local macro_rules | `(tactic| k_offL) => `(tactic| first
  | (show (0 : Int) < _; first | omega | decide)
  | (refine ⟨?_, ?_⟩ <;> first | omega | decide)
  | exact .inr ⟨by decide, by decide⟩
  | exact .inl ⟨by decide, by decide⟩
  | exact .inl ⟨by omega, by omega⟩
  | omega)
local macro_rules | `(tactic| k_clsL) => `(tactic| exact Nat.le_of_ble_eq_true rfl)
local macro_rules | `(tactic| k_upd) => `(tactic| simp only [L2.start, List.map_cons, List.map_nil, List.length_cons, List.length_nil, List.replicate_succ, List.replicate_zero, List.cons_append, List.nil_append, List.set_cons_zero, List.set_cons_succ])
section
variable {P : Program} {w : World} {K : PySem.W.Frag} {mg : Str → Option Value} {base : Heap}
def oneR (S : Int → Nat) (r : Int) : Nat := ones3 (S r <<< 1) (S r) (S r >>> 1)
def twoR (S : Int → Nat) (r : Int) : Nat := twos3 (S r <<< 1) (S r) (S r >>> 1)
def sp_row_sums : Sp := fun vs H Q _ => ∃ (d : Addr) (ps : List Pr) (S : Int → Nat), vs = [.ref d] ∧ Floor H d ps S ∧ ps.length < 10000 ∧ (∀ r, S r &&& 1 = 0) ∧ (∀ r, S r < 2 ^ 2047) ∧
  ∀ (H' : Hp) (sd : Addr) (A : Int → Addr), H sd = none → Same H H' → Dct H' sd ps (fun x => .ref (A x.1)) → (∀ x ∈ ps, H' (A x.1) = some (.tup [.int (oneR S x.1 : Nat), .int (twoR S x.1 : Nat)])) → Q (.ref sd) H'
theorem left_eq {n F : Nat} (h : n < 2 ^ 2047) (hF : F = 2 ^ 2048 - 1) : ((n <<< 1) &&& F) ||| (0 >>> 2047) = n <<< 1 := by
  have l : n <<< 1 < 2 ^ 2048 := by
    rw [Nat.shiftLeft_eq, show (2 : Nat) ^ 2048 = 2 ^ 2047 * 2 ^ 1 from Nat.pow_add 2 2047 1]
    exact Nat.mul_lt_mul_of_pos_right h (by decide)
  rw [hF, Nat.and_two_pow_sub_one_of_lt_two_pow l, Nat.zero_shiftRight, Nat.or_zero]
theorem right_eq (n : Nat) : (n >>> 1) ||| ((0 &&& 1) <<< 2047) = n >>> 1 := by
  rw [Nat.zero_and, Nat.zero_shiftLeft, Nat.or_zero]
theorem shr_zero {n : Nat} (h : n < 2 ^ 2047) : n >>> 2047 = 0 := by
  rw [Nat.shiftRight_eq_div_pow]
  exact Nat.div_eq_of_lt h
theorem full_eq : ∃ B F : Nat, B = 1 <<< 2048 ∧ F = 2 ^ 2048 - 1 ∧ (B : Int) - 1 = (F : Int) := by
  refine ⟨_, _, rfl, rfl, ?_⟩
  rw [Nat.one_shiftLeft]
  have : 0 < 2 ^ 2048 := Nat.two_pow_pos 2048
  omega
theorem ok_row_sums (T : Txt K mg) : FnOk P w K mg base CX0 2 T.f_row_sums T.d_row_sums ["floor"] sp_row_sums := by
  refine T.F_row_sums.ok sc_row_sums (fun vs H Q E h => ?_) (fun cdv A outer s H vs Q E hr h => ?_)
  · obtain ⟨_, _, _, rfl, _⟩ := h
    rfl
  · obtain ⟨d, ps, S, rfl, hF, few, b0, b1, q⟩ := h
    have hu : (A.deeper (envOfC (Str.ofString "_row_sums") (defScope s_row_sums) s.heap.objs.size T.f_row_sums cdv)).units + 1 < cLine := by
      have := hr.units
      omega
    refine ⟨_, (pss_cons (ps_set (i := 1) sc_row_sums.nd rfl (.inl rfl) (pe_op op_sub (pe_gcx (by rfl) T.c_WIDTH) pe_int))
      (pss_cons (ps_set (i := 2) sc_row_sums.nd rfl (.inl rfl) (pe_op op_sub (pe_op op_shlNN pe_int (pe_gcx (by rfl) T.c_WIDTH)) pe_int))
      (pss_cons (ps_set (i := 3) sc_row_sums.nd rfl (.inl rfl) pe_dnewT)
      (pss_cons (ps_for PassesOwn.never rfl (pi_list (pe_call (ok_with_strips_beside T) (hr.mono (by decide)) (by rfl) T.g_with_strips_beside T.F_with_strips_beside.kp T.b_with_strips_beside .nil pass0 (pa_cons (pv 0) pa_nil))) (pg_tupK (K := K) (n := 2) rfl rfl (pgs_cons (pg_name (i := 4) sc_row_sums.nd rfl (.inl rfl)) (pgs_cons (pg_name (i := 5) sc_row_sums.nd rfl (.inl rfl)) pgs_nil)))
      (pss_cons (ps_set (i := 6) sc_row_sums.nd rfl (.inl rfl) (pe_dget2 hu (pv 0) (pe_tup (pa_cons (pv 4) (pa_cons (pv 5) pa_nil))) pe_int ⟨rfl, rfl, rfl, rfl⟩))
      (pss_cons (ps_set (i := 7) sc_row_sums.nd rfl (.inl rfl) (pe_op op_orNN (pe_op op_andNN (pe_op op_shlNN (pv 6) pe_int) (pv 2)) (pe_op op_shrNN (pe_dget2 hu (pv 0) (pe_tup (pa_cons (pv 4) (pa_cons (pe_op op_sub (pv 5) pe_int) pa_nil))) pe_int ⟨rfl, rfl, rfl, rfl⟩) (pv 1))))
      (pss_cons (ps_set (i := 8) sc_row_sums.nd rfl (.inl rfl) (pe_op op_orNN (pe_op op_shrNN (pv 6) pe_int) (pe_op op_shlNN (pe_op op_andNN (pe_dget2 hu (pv 0) (pe_tup (pa_cons (pv 4) (pa_cons (pe_op op_add (pv 5) pe_int) pa_nil))) pe_int ⟨rfl, rfl, rfl, rfl⟩) pe_int) (pv 1))))
      (pss_one (ps_dput hu (pv 3) (pe_tup (pa_cons (pv 4) (pa_cons (pv 5) pa_nil))) (pe_call (ok_sums_of T) (hr.mono (by decide)) (by rfl) T.g_sums_of T.F_sums_of.kp T.b_sums_of .nil pass0 (pa_cons (pv 7) (pa_cons (pv 6) (pa_cons (pv 8) pa_nil)))) rfl))))))
      (pss_one (ps_ret (pv 3))))))), ?_⟩
    k_upd
    have hnd : ps.Nodup := hF.1.choose_spec.2.2
    refine ⟨_, _, rfl, rfl, ?_⟩
    refine ⟨1, 2048, 1, rfl, rfl, by decide, by decide, _, _, rfl, rfl, ?_⟩
    obtain ⟨B, F, hB, hFe, hBF⟩ := full_eq
    rw [← hB]
    k_upd
    rw [hBF]
    refine fun sd nsd => ?_
    k_invariant "new" (nsd, H1, e1, g1)
    k_upd
    refine ⟨_, rfl, d, ps, S, rfl, hF.up e1, few, b0, fun r => shr_zero (b1 r), fun H2 lp n2 e2 c2 => ?_⟩
    obtain ⟨ts, hl, ht, ets⟩ := id c2
    refine ⟨lp, rfl, ⟨_, lst_of hl⟩, ?_⟩
    have lts : ts.length = ps.length := by rw [← ets, List.length_map]
    have nlp : lp ≠ sd := fun e => by rw [e, g1] at n2; cases n2
    refine for_list (K := K) (a := lp) (xs := ts.map fun t => V.ref t.1) (fun i σ H' => Same H H' ∧ H' lp = some (.lst (ts.map fun t => V.ref t.1)) ∧ (∀ t ∈ ts, H' t.1 = some (.tup [.int t.2.1, .int t.2.2])) ∧
      (∃ x4 x5 x6 x7 x8 : Option V, σ = [some (.ref d), some (.int 2047), some (.int (F : Int)), some (.ref sd), x4, x5, x6, x7, x8]) ∧
      ∃ A : Int → Addr, Dct H' sd (ps.take i) (fun x => .ref (A x.1)) ∧ ∀ x ∈ ps.take i, H' (A x.1) = some (.tup [.int (oneR S x.1 : Nat), .int (twoR S x.1 : Nat)]))
      ⟨e1.trans e2, hl, ht, ⟨_, _, _, _, _, rfl⟩, fun _ => 0, (Dct.new _ g1).up e2, fun _ m => (by cases m)⟩ (fun i σ H' _ p => lst_of p.2.1) ?_ ?_
    · rintro i x σ H' hi ⟨sm, hl', htt, ⟨x4, x5, x6, x7, x8, rfl⟩, A, hK, hA⟩
      obtain ⟨t, mt, rfl, hx⟩ := item_cells (H := H') hi rfl
      rw [ets] at hx
      have li : i < ps.length := (List.getElem?_eq_some_iff.mp hx).1
      have ht' := htt t mt
      obtain ⟨⟨ta, row, c0⟩, ht''⟩ : ∃ t' : Addr × Pr, t' = t := ⟨t, rfl⟩
      subst ht''
      dsimp only at ht' hx
      have zz : c0 = 0 := hF.2.1 _ (List.mem_of_getElem? hx)
      subst zz
      have hF' := hF.up sm
      refine ⟨ta, _, rfl, tup_of ht', rfl, _, _, rfl, _, _, rfl, rfl, ?_⟩
      k_upd
      refine ⟨_, rfl, d, rfl, hF'.1.isD, _, rfl, _, rfl, (by k_clsL), fun p3 n3 => ?_⟩
      k_invariant "new" (n3, H3, e3, g3)
      refine ⟨_, (hF'.up e3).get g3, ?_⟩
      rw [Floor.getD hF.2.2]
      k_upd
      refine ⟨_, rfl, S row, 1, 2047, rfl, rfl, b1 row, by decide, _, rfl, _, _, rfl, rfl, _, rfl, d, rfl, (hF'.up e3).1.isD, _, rfl, _, rfl, _, _, rfl, rfl, (by k_clsL), fun p4 n4 => ?_⟩
      k_invariant "new" (n4, H4, e4, g4)
      refine ⟨_, (hF'.up (e3.trans e4)).off g4 (by decide), _, rfl, 0, 2047, rfl, rfl, _, _, rfl, rfl, ?_⟩
      rw [left_eq (b1 row) hFe]
      k_upd
      refine ⟨_, rfl, S row, 1, rfl, rfl, _, rfl, d, rfl, (hF'.up (e3.trans e4)).1.isD, _, rfl, _, rfl, _, _, rfl, rfl, (by k_clsL), fun p5 n5 => ?_⟩
      k_invariant "new" (n5, H5, e5, g5)
      refine ⟨_, (hF'.up (e3.trans (e4.trans e5))).off g5 (by decide), 0, 1, rfl, rfl, _, rfl, _, 2047, 1, rfl, rfl, by decide, by decide, _, _, rfl, rfl, ?_⟩
      rw [right_eq]
      k_upd
      refine ⟨_, rfl, _, rfl, _, rfl, _, _, _, rfl, fun H6 p6 e6 n6 g6 => ?_⟩
      refine ⟨_, rfl, _, rfl, _, rfl, (by k_clsL), fun p7 n7 => ?_⟩
      k_invariant "new" (n7, H7, e7, g7)
      have s7 : Same H' H7 := e3.trans (e4.trans (e5.trans (e6.trans e7)))
      obtain ⟨H8, dp, pa⟩ := (hK.up s7).dput (x := (row, 0)) (by rw [List.length_take, sizeLine_eq]; omega) g7 (.ref p6)
      have off : ∀ (b : Addr) (o : HO), H7 b = some o → (∀ kvs, o ≠ .dT kvs) → H8 b = some o := fun b o e ne => by
        rw [pa.2 b fun z => ?_]
        · exact e
        · obtain ⟨kvs, h1, _⟩ := hK.up s7
          rw [z, h1] at e
          exact ne kvs (Option.some.inj e).symm
      refine ⟨sd, H8, rfl, dp, pa.mut (sm.trans s7) nsd, off _ _ (s7 _ _ hl') (fun _ z => by cases z), fun t m => off _ _ (s7 _ _ (htt t m)) (fun _ z => by cases z), ⟨_, _, _, _, _, rfl⟩, fun r => if r = row then p6 else A r, ?_, fun x m => ?_⟩
      · rw [← addK_take hnd hx]
        refine pa.1.congr fun x m => ?_
        unfold setG
        by_cases e : x = (row, 0)
        · rw [if_pos e, e]
          dsimp only
          rw [if_pos rfl]
        · have x0 : x.2 = 0 := (mem_addK.mp m).elim (fun m => hF.2.1 x (List.mem_of_mem_take m)) fun z => absurd z e
          have e1 : ¬ x.1 = row := fun z => e (Prod.ext z x0)
          rw [if_neg e]
          dsimp only
          rw [if_neg e1]
      · rw [take_next hx] at m
        dsimp only
        by_cases e : x.1 = row
        · rw [if_pos e, e]
          exact off _ _ (e7 _ _ g6) (fun _ z => by cases z)
        · rw [if_neg e]
          rcases List.mem_append.mp m with m | m
          · exact off _ _ (s7 _ _ (hA x m)) (fun _ z => by cases z)
          · rw [List.mem_singleton.mp m] at e
            exact absurd rfl e
    · rintro σ H' ⟨sm, hl', htt, ⟨x4, x5, x6, x7, x8, rfl⟩, A, hK, hA⟩
      rw [List.length_map, List.take_of_length_le (by omega)] at hK hA
      exact ⟨_, rfl, q H' sd A nsd sm hK hA⟩
end
end My
namespace My
open PySem PySem.Spec PyProof.Rows L2 Vx
open TL
local macro_rules | `(tactic| k_invariant "new" ($n, $H:ident, $e:ident, $h:ident)) => `(tactic| (generalize hE : upd _ _ _ = $H; obtain ⟨$e:ident, $h:ident⟩ := gen_e hE $n; clear hE))
local macro_rules | `(tactic| k_places) => `(tactic| first
  | assumption
  | exact lst_of (by assumption)
  | exact tup_of (by assumption)
  | (refine getS (by assumption) ?_; k_places)
  | (refine Same.seq (by assumption) ?_; k_places)
  | (refine tupS (by assumption) ?_; k_places)
  | (refine lst_of ?_; k_places)
  | (refine tup_of ?_; k_places))
local macro_rules | `(tactic| k_subL) => `(tactic| first
  | k_places
  | solve_by_elim (maxDepth := 10) [getS, lst_of, tup_of, Same.seq, tupS])
local macro_rules | `(tactic| k_offL) => `(tactic| first
  | (show (0 : Int) < _; first | omega | decide)
  | (refine ⟨?_, ?_⟩ <;> first | omega | decide)
  | exact .inr ⟨by decide, by decide⟩
  | exact .inl ⟨by decide, by decide⟩
  | exact .inl ⟨by omega, by omega⟩
  | omega)
local macro_rules | `(tactic| k_clsL) => `(tactic| exact Nat.le_of_ble_eq_true rfl)
local macro_rules | `(tactic| k_upd) => `(tactic| simp only [L2.start, List.map_cons, List.map_nil, List.length_cons, List.length_nil, List.replicate_succ, List.replicate_zero, List.cons_append, List.nil_append, List.set_cons_zero, List.set_cons_succ])
section
variable {P : Program} {w : World} {K : PySem.W.Frag} {mg : Str → Option Value} {base : Heap}
/-! ### what the bits say -/
def nb (L : Int → Int → Bool) (r c : Int) : Nat :=
  (L (r - 1) (c - 1)).toNat + (L (r - 1) c).toNat + (L (r - 1) (c + 1)).toNat + (L r (c - 1)).toNat + (L r (c + 1)).toNat + (L (r + 1) (c - 1)).toNat + (L (r + 1) c).toNat + (L (r + 1) (c + 1)).toNat
def stepL (bs ss : List Int) (L : Int → Int → Bool) (r c : Int) : Bool := if L r c = true then decide ((nb L r c : Int) ∈ ss) else decide ((nb L r c : Int) ∈ bs)
def genL (bs ss : List Int) (L : Int → Int → Bool) : Nat → Int → Int → Bool
  | 0 => L
  | n + 1 => stepL bs ss (genL bs ss L n)
def oneB (l a r : Bool) : Bool := (l ^^ r) ^^ a
def twoB (l a r : Bool) : Bool := (l && r) || ((l ^^ r) && a)
def carB (ao ho bo : Bool) : Bool := (ao && bo) || ((ao ^^ bo) && ho)
def sum9 (a b c d e f g h i : Bool) : Nat := a.toNat + b.toNat + c.toNat + d.toNat + e.toNat + f.toNat + g.toNat + h.toNat + i.toNat
theorem bits9 : ∀ a b c d e f g h i : Bool,
    ((oneB a b c ^^ oneB g h i) ^^ oneB d e f) = decide (sum9 a b c d e f g h i % 2 = 1) ∧
    ((twoB a b c ^^ twoB g h i) ^^ (twoB d e f ^^ carB (oneB a b c) (oneB d e f) (oneB g h i))) = decide (sum9 a b c d e f g h i / 2 % 2 = 1) ∧
    (((twoB a b c && twoB g h i) ^^ (twoB d e f && carB (oneB a b c) (oneB d e f) (oneB g h i))) || ((twoB a b c ^^ twoB g h i) && (twoB d e f ^^ carB (oneB a b c) (oneB d e f) (oneB g h i)))) = decide (sum9 a b c d e f g h i / 4 % 2 = 1) ∧
    ((twoB a b c && twoB g h i) && (twoB d e f && carB (oneB a b c) (oneB d e f) (oneB g h i))) = decide (sum9 a b c d e f g h i / 8 % 2 = 1) ∧ sum9 a b c d e f g h i < 10 := by
  decide +kernel
def lowB (o t n : Bool) : Nat → Bool
  | 0 => (n ^^ o) && (n ^^ t)
  | 1 => o && (n ^^ t)
  | 2 => (n ^^ o) && t
  | _ => o && t
def highB (f e n : Bool) : Nat → Bool
  | 0 => n ^^ (f || e)
  | 1 => f
  | _ => e
theorem pickB : ∀ s < 10, ∀ n < 10, 1 ≤ n → (lowB (decide (s % 2 = 1)) (decide (s / 2 % 2 = 1)) (((decide (s % 2 = 1) || decide (s / 2 % 2 = 1)) || decide (s / 4 % 2 = 1)) || decide (s / 8 % 2 = 1)) (n % 4) &&
    highB (decide (s / 4 % 2 = 1)) (decide (s / 8 % 2 = 1)) (((decide (s % 2 = 1) || decide (s / 2 % 2 = 1)) || decide (s / 4 % 2 = 1)) || decide (s / 8 % 2 = 1)) (n / 4)) = decide (s = n) := by
  decide +kernel
theorem nearB : ∀ s < 10, (((decide (s % 2 = 1) || decide (s / 2 % 2 = 1)) || decide (s / 4 % 2 = 1)) || decide (s / 8 % 2 = 1)) = decide (s ≠ 0) := by decide +kernel
theorem low4_bit (o t f e j : Nat) : ∀ k, (low4 o t f e k).testBit j = lowB (o.testBit j) (t.testBit j) ((near9 o t f e).testBit j) k
  | 0 => by show ((near9 o t f e ^^^ o) &&& (near9 o t f e ^^^ t)).testBit j = _; rw [Nat.testBit_and, Nat.testBit_xor, Nat.testBit_xor]; rfl
  | 1 => by show (o &&& (near9 o t f e ^^^ t)).testBit j = _; rw [Nat.testBit_and, Nat.testBit_xor]; rfl
  | 2 => by show ((near9 o t f e ^^^ o) &&& t).testBit j = _; rw [Nat.testBit_and, Nat.testBit_xor]; rfl
  | _ + 3 => by show (o &&& t).testBit j = _; rw [Nat.testBit_and]; rfl
theorem high3_bit (o t f e j : Nat) : ∀ k, (high3 o t f e k).testBit j = highB (f.testBit j) (e.testBit j) ((near9 o t f e).testBit j) k
  | 0 => by show (near9 o t f e ^^^ (f ||| e)).testBit j = _; rw [Nat.testBit_xor, Nat.testBit_or]; rfl
  | 1 => rfl
  | _ + 2 => rfl
theorem picks_bit (o t f e j : Nat) (ns : List Nat) : (picks o t f e ns).testBit j = ns.any fun n => (pick o t f e n).testBit j := by
  have go : ∀ (ns : List Nat) (a : Nat), (ns.foldl (fun acc n => acc ||| pick o t f e n) a).testBit j = (a.testBit j || ns.any fun n => (pick o t f e n).testBit j) := fun ns => by
    induction ns with
    | nil => exact fun a => by simp
    | cons n ns ih =>
      intro a
      rw [List.foldl_cons, ih, Nat.testBit_or, List.any_cons, Bool.or_assoc]
  unfold picks
  rw [go, Nat.zero_testBit, Bool.false_or]
/-- the bit of the next strip, by the total s of the nine -/
theorem nextN_bit {alive o t f e j s : Nat} {bs ss : List Int} (hs : s < 10) (h1 : o.testBit j = decide (s % 2 = 1)) (h2 : t.testBit j = decide (s / 2 % 2 = 1)) (h4 : f.testBit j = decide (s / 4 % 2 = 1)) (h8 : e.testBit j = decide (s / 8 % 2 = 1))
    (hb : ∀ b ∈ bs, 1 ≤ b ∧ b ≤ 8) (hss : ∀ b ∈ ss, 0 ≤ b ∧ b ≤ 8) (ha : alive.testBit j = true → 1 ≤ s) :
    (nextN alive o t f e bs ss).testBit j = if alive.testBit j = true then decide (((s : Int) - 1) ∈ ss) else decide ((s : Int) ∈ bs) := by
  have hn : (near9 o t f e).testBit j = decide (s ≠ 0) := by
    unfold near9
    rw [Nat.testBit_or, Nat.testBit_or, Nat.testBit_or, h1, h2, h4, h8]
    exact nearB s hs
  have hp : ∀ n, 1 ≤ n → n < 10 → (pick o t f e n).testBit j = decide (s = n) := fun n n1 n2 => by
    unfold pick
    rw [Nat.testBit_and, low4_bit, high3_bit, hn, h1, h2, h4, h8, ← nearB s hs]
    exact pickB s hs n n2 n1
  have pb : (picks o t f e (bs.map Int.toNat)).testBit j = decide ((s : Int) ∈ bs) := by
    rw [picks_bit, Bool.eq_iff_iff, decide_eq_true_iff, List.any_eq_true]
    constructor
    · rintro ⟨n, m, h⟩
      obtain ⟨b, mb, rfl⟩ := List.mem_map.mp m
      have := hb b mb
      rw [hp _ (by omega) (by omega)] at h
      have h := of_decide_eq_true h
      rw [show (s : Int) = b by omega]
      exact mb
    · intro m
      have := hb _ m
      refine ⟨s, List.mem_map.mpr ⟨_, m, by omega⟩, ?_⟩
      rw [hp _ (by omega) hs]
      exact decide_eq_true rfl
  have pss : (picks o t f e (ss.map fun n => n.toNat + 1)).testBit j = decide (((s : Int) - 1) ∈ ss) := by
    rw [picks_bit, Bool.eq_iff_iff, decide_eq_true_iff, List.any_eq_true]
    constructor
    · rintro ⟨n, m, h⟩
      obtain ⟨b, mb, rfl⟩ := List.mem_map.mp m
      have := hss b mb
      rw [hp _ (by omega) (by omega)] at h
      have h := of_decide_eq_true h
      rw [show (s : Int) - 1 = b by omega]
      exact mb
    · intro m
      have := hss _ m
      refine ⟨s, List.mem_map.mpr ⟨_, m, by omega⟩, ?_⟩
      rw [hp _ (by omega) hs]
      exact decide_eq_true rfl
  unfold nextN
  rw [Nat.testBit_or, Nat.testBit_and, Nat.testBit_and, Nat.testBit_xor, pb, pss, hn]
  cases hal : alive.testBit j with
  | true =>
    have := ha hal
    rw [decide_eq_true (show s ≠ 0 by omega), if_pos rfl]
    simp
  | false =>
    rw [if_neg (by decide)]
    by_cases z : s = 0
    · have nm : ¬ (s : Int) ∈ bs := fun m => by
        have := hb _ m
        omega
      rw [decide_eq_false nm]
      simp
    · rw [decide_eq_true z]
      simp
end
end My
namespace My
open PySem PySem.Spec PyProof.Rows L2 Vx
open TL
local macro_rules | `(tactic| k_invariant "new" ($n, $H:ident, $e:ident, $h:ident)) => `(tactic| (generalize hE : upd _ _ _ = $H; obtain ⟨$e:ident, $h:ident⟩ := gen_e hE $n; clear hE))
local macro_rules | `(tactic| k_places) => `(tactic| first
  | assumption
  | exact lst_of (by assumption)
  | exact tup_of (by assumption)
  | (refine getS (by assumption) ?_; k_places)
  | (refine Same.seq (by assumption) ?_; k_places)
  | (refine tupS (by assumption) ?_; k_places)
  | (refine lst_of ?_; k_places)
  | (refine tup_of ?_; k_places))
local macro_rules | `(tactic| k_subL) => `(tactic| first
  | k_places
  | solve_by_elim (maxDepth := 10) [getS, lst_of, tup_of, Same.seq, tupS])
local macro_rules | `(tactic| k_offL) => `(tactic| first
  | (show (0 : Int) < _; first | omega | decide)
  | (refine ⟨?_, ?_⟩ <;> first | omega | decide)
  | exact .inr ⟨by decide, by decide⟩
  | exact .inl ⟨by decide, by decide⟩
  | exact .inl ⟨by omega, by omega⟩
  | omega)
local macro_rules | `(tactic| k_clsL) => `(tactic| exact Nat.le_of_ble_eq_true rfl)
local macro_rules | `(tactic| k_upd) => `(tactic| simp only [L2.start, List.map_cons, List.map_nil, List.length_cons, List.length_nil, List.replicate_succ, List.replicate_zero, List.cons_append, List.nil_append, List.set_cons_zero, List.set_cons_succ])
section
variable {P : Program} {w : World} {K : PySem.W.Frag} {mg : Str → Option Value} {base : Heap}
def nextRow (bs ss : List Int) (S : Int → Nat) (r : Int) : Nat :=
  nextN (S r) (one9 (oneR S (r - 1)) (oneR S r) (oneR S (r + 1))) (two9 (oneR S (r - 1)) (twoR S (r - 1)) (oneR S r) (twoR S r) (oneR S (r + 1)) (twoR S (r + 1)))
    (four9 (oneR S (r - 1)) (twoR S (r - 1)) (oneR S r) (twoR S r) (oneR S (r + 1)) (twoR S (r + 1))) (eight9 (oneR S (r - 1)) (twoR S (r - 1)) (oneR S r) (twoR S r) (oneR S (r + 1)) (twoR S (r + 1))) bs ss
def liveS (first : Int) (S : Int → Nat) (r c : Int) : Bool := decide (0 ≤ c - first) && (S r).testBit (c - first).toNat
theorem nb_sum {L : Int → Int → Bool} {r c : Int} : sum9 (L (r - 1) (c - 1)) (L (r - 1) c) (L (r - 1) (c + 1)) (L r (c - 1)) (L r c) (L r (c + 1)) (L (r + 1) (c - 1)) (L (r + 1) c) (L (r + 1) (c + 1)) = nb L r c + (L r c).toNat := by
  unfold sum9 nb
  omega
theorem liveS_at {first : Int} {S : Int → Nat} {r c : Int} {j : Nat} (h : c - first = (j : Int)) : liveS first S r c = (S r).testBit j := by
  unfold liveS
  rw [h, Int.toNat_natCast, decide_eq_true (Int.natCast_nonneg j), Bool.true_and]
theorem liveS_low {first : Int} {S : Int → Nat} {r c : Int} (h : c - first < 0) : liveS first S r c = false := by
  unfold liveS
  rw [decide_eq_false (by omega), Bool.false_and]
theorem bit0 {n : Nat} (h : n &&& 1 = 0) : n.testBit 0 = false := by
  have := Nat.testBit_and n 1 0
  rw [h, Nat.zero_testBit] at this
  simpa using this.symm
theorem oneR_bit {first : Int} {S : Int → Nat} {c : Int} {j : Nat} (h : c - first = (j : Int)) (r : Int) :
    (oneR S r).testBit j = oneB (liveS first S r (c - 1)) (liveS first S r c) (liveS first S r (c + 1)) ∧ (twoR S r).testBit j = twoB (liveS first S r (c - 1)) (liveS first S r c) (liveS first S r (c + 1)) := by
  have h0 : liveS first S r c = (S r).testBit j := liveS_at h
  have h1 : liveS first S r (c + 1) = (S r).testBit (j + 1) := liveS_at (by omega)
  have h2 : liveS first S r (c - 1) = ((S r) <<< 1).testBit j := by
    rw [Nat.testBit_shiftLeft]
    by_cases z : j = 0
    · rw [liveS_low (by omega), z]
      rfl
    · rw [liveS_at (j := j - 1) (by omega), decide_eq_true (show j ≥ 1 by omega), Bool.true_and]
  have h3 : ((S r) >>> 1).testBit j = (S r).testBit (j + 1) := by rw [Nat.testBit_shiftRight, Nat.add_comm]
  rw [h0, h1, h2]
  unfold oneR twoR ones3 twos3 oneB twoB
  simp only [Nat.testBit_xor, Nat.testBit_or, Nat.testBit_and, h3]
  exact ⟨trivial, trivial⟩
theorem nextRow_live {bs ss : List Int} {S : Int → Nat} (first : Int) (hb : ∀ b ∈ bs, 1 ≤ b ∧ b ≤ 8) (hss : ∀ b ∈ ss, 0 ≤ b ∧ b ≤ 8) (b0 : ∀ r, S r &&& 1 = 0) (r c : Int) :
    liveS first (nextRow bs ss S) r c = stepL bs ss (liveS first S) r c := by
  by_cases neg : c - first < 0
  · have hz : ∀ r', liveS first S r' (c + 1) = false := fun r' => by
      by_cases e : c - first = -1
      · rw [liveS_at (j := 0) (by omega)]
        exact bit0 (b0 r')
      · exact liveS_low (by omega)
    rw [liveS_low neg]
    unfold stepL nb
    rw [hz, hz, hz, liveS_low neg, liveS_low (c := c) neg, liveS_low (c := c) neg, liveS_low (c := c - 1) (by omega), liveS_low (c := c - 1) (by omega), liveS_low (c := c - 1) (by omega), if_neg (by decide)]
    refine (decide_eq_false fun m => ?_).symm
    have := hb _ m
    simp at this
  · obtain ⟨j, h⟩ := Int.eq_ofNat_of_zero_le (show 0 ≤ c - first by omega)
    obtain ⟨a1, a2⟩ := oneR_bit (S := S) h (r - 1)
    obtain ⟨b1, b2⟩ := oneR_bit (S := S) h r
    obtain ⟨c1, c2⟩ := oneR_bit (S := S) h (r + 1)
    have q := bits9 (liveS first S (r - 1) (c - 1)) (liveS first S (r - 1) c) (liveS first S (r - 1) (c + 1)) (liveS first S r (c - 1)) (liveS first S r c) (liveS first S r (c + 1)) (liveS first S (r + 1) (c - 1)) (liveS first S (r + 1) c) (liveS first S (r + 1) (c + 1))
    rw [nb_sum] at q
    obtain ⟨q1, q2, q4, q8, ql⟩ := q
    rw [liveS_at h]
    have al : (S r).testBit j = liveS first S r c := (liveS_at h).symm
    unfold nextRow
    rw [nextN_bit ql ?_ ?_ ?_ ?_ hb hss ?_, al]
    · unfold stepL
      by_cases z : liveS first S r c = true
      · rw [if_pos z, if_pos z, z]
        rw [show ((nb (liveS first S) r c + true.toNat : Nat) : Int) - 1 = (nb (liveS first S) r c : Int) by show ((nb (liveS first S) r c + 1 : Nat) : Int) - 1 = _; omega]
      · have z' : liveS first S r c = false := by simpa using z
        rw [if_neg z, if_neg z, z']
        rfl
    · rw [← q1]
      unfold one9
      simp only [Nat.testBit_xor, a1, b1, c1]
    · rw [← q2]
      unfold two9 car9 carB
      simp only [Nat.testBit_xor, Nat.testBit_or, Nat.testBit_and, a1, b1, c1, a2, b2, c2]
    · rw [← q4]
      unfold four9 car9 carB
      simp only [Nat.testBit_xor, Nat.testBit_or, Nat.testBit_and, a1, b1, c1, a2, b2, c2]
    · rw [← q8]
      unfold eight9 car9 carB
      simp only [Nat.testBit_xor, Nat.testBit_or, Nat.testBit_and, a1, b1, c1, a2, b2, c2]
    · intro z
      rw [al] at z
      rw [z]
      show 1 ≤ _ + 1
      omega
theorem nextN_zero (bs ss : List Int) : nextN 0 0 0 0 0 bs ss = 0 := by
  unfold nextN near9
  simp
theorem oneR_zero {S : Int → Nat} {r : Int} (h : S r = 0) : oneR S r = 0 ∧ twoR S r = 0 := by
  unfold oneR twoR ones3 twos3
  rw [h]
  simp
theorem nextRow_zero {bs ss : List Int} {S : Int → Nat} {r : Int} (h1 : S (r - 1) = 0) (h2 : S r = 0) (h3 : S (r + 1) = 0) : nextRow bs ss S r = 0 := by
  unfold nextRow
  rw [(oneR_zero h1).1, (oneR_zero h1).2, (oneR_zero h2).1, (oneR_zero h2).2, (oneR_zero h3).1, (oneR_zero h3).2, h2]
  unfold one9 two9 four9 eight9 car9
  simp [nextN_zero]
end
end My
namespace My
open PySem PySem.Spec PyProof.Rows L2 Vx
open TL
local macro_rules | `(tactic| k_invariant "new" ($n, $H:ident, $e:ident, $h:ident)) => `(tactic| (generalize hE : upd _ _ _ = $H; obtain ⟨$e:ident, $h:ident⟩ := gen_e hE $n; clear hE))
local macro_rules | `(tactic| k_places) => `(tactic| first
  | assumption
  | exact lst_of (by assumption)
  | exact tup_of (by assumption)
  | (refine getS (by assumption) ?_; k_places)
  | (refine Same.seq (by assumption) ?_; k_places)
  | (refine tupS (by assumption) ?_; k_places)
  | (refine lst_of ?_; k_places)
  | (refine tup_of ?_; k_places))
local macro_rules | `(tactic| k_subL) => `(tactic| first
  | k_places
  | solve_by_elim (maxDepth := 10) [getS, lst_of, tup_of, Same.seq, tupS])
local macro_rules | `(tactic| k_offL) => `(tactic| first
  | (show (0 : Int) < _; first | omega | decide)
  | (refine ⟨?_, ?_⟩ <;> first | omega | decide)
  | exact .inr ⟨by decide, by decide⟩
  | exact .inl ⟨by decide, by decide⟩
  | exact .inl ⟨by omega, by omega⟩
  | omega)
local macro_rules | `(tactic| k_clsL) => `(tactic| exact Nat.le_of_ble_eq_true rfl)
local macro_rules | `(tactic| k_upd) => `(tactic| simp only [L2.start, List.map_cons, List.map_nil, List.length_cons, List.length_nil, List.replicate_succ, List.replicate_zero, List.cons_append, List.nil_append, List.set_cons_zero, List.set_cons_succ])
section
variable {P : Program} {w : World} {K : PySem.W.Frag} {mg : Str → Option Value} {base : Heap}
theorem sum_get {H : Hp} {sd b pn : Addr} {ps : List Pr} {S : Int → Nat} {A : Int → Addr} {r : Int} (hD : Dct H sd ps (fun x => .ref (A x.1))) (hA : ∀ x ∈ ps, H (A x.1) = some (.tup [.int (oneR S x.1 : Nat), .int (twoR S x.1 : Nat)]))
    (hz : ∀ r, (r, 0) ∉ ps → S r = 0) (hn : H pn = some (.tup [.int 0, .int 0])) (e : H b = some (.tup [.int r, .int 0])) :
    ∃ (o : Option V) (pa : Addr), DGet H sd (.ref b) o ∧ o.getD (.ref pn) = .ref pa ∧ H pa = some (.tup [.int (oneR S r : Nat), .int (twoR S r : Nat)]) := by
  have g := hD.dget (x := (r, 0)) e
  by_cases m : (r, (0 : Int)) ∈ ps
  · rw [if_pos m] at g
    exact ⟨_, _, g, rfl, hA _ m⟩
  · rw [if_neg m] at g
    refine ⟨_, _, g, rfl, ?_⟩
    rw [(oneR_zero (hz r m)).1, (oneR_zero (hz r m)).2]
    exact hn
def sp_next_floor (C : Addr) : Sp := fun vs H Q _ => ∃ (d r : Addr) (ps : List Pr) (S : Int → Nat) (bs ss : List Int), vs = [.ref d, .ref r] ∧ Floor H d ps S ∧ RuleAt C H r bs ss ∧ (∀ b ∈ bs, 1 ≤ b ∧ b ≤ 8) ∧ (∀ b ∈ ss, 0 ≤ b ∧ b ≤ 8) ∧ ps.length < 5000 ∧ (∀ r, S r &&& 1 = 0) ∧ (∀ r, S r < 2 ^ 2047) ∧
  ∀ (H' : Hp) (d' : Addr) (qs : List Pr), H d' = none → Same H H' → Floor H' d' qs (nextRow bs ss S) → (∀ x ∈ qs, ∃ y ∈ ps, x.1 = y.1 - 1 ∨ x.1 = y.1 ∨ x.1 = y.1 + 1) → Q (.ref d') H'
theorem ok_next_floor (T : Txt K mg) : FnOk P w K mg base CX0 3 T.f_next_floor T.d_next_floor ["floor", "rule"] (sp_next_floor T.C_Rule) := by
  refine T.F_next_floor.ok sc_next_floor (fun vs H Q E h => ?_) (fun cdv A outer s H vs Q E hr h => ?_)
  · obtain ⟨_, _, _, _, _, _, rfl, _⟩ := h
    rfl
  · obtain ⟨d, r, ps, S, bs, ss, rfl, hF, hR, hb, hss, few, b0, b1, q⟩ := h
    have hu : (A.deeper (envOfC (Str.ofString "next_floor") (defScope s_next_floor) s.heap.objs.size T.f_next_floor cdv)).units + 1 < cLine := by
      have := hr.units
      omega
    refine ⟨_, (pss_cons (ps_set (i := 2) sc_next_floor.nd rfl (.inl rfl) (pe_call (ok_row_sums T) (hr.mono (by decide)) (by rfl) T.g_row_sums T.F_row_sums.kp T.b_row_sums .nil pass0 (pa_cons (pv 0) pa_nil)))
      (pss_cons (ps_set (i := 3) sc_next_floor.nd rfl (.inl rfl) (pe_tup (pa_cons pe_int (pa_cons pe_int pa_nil))))
      (pss_cons (ps_set (i := 4) sc_next_floor.nd rfl (.inl rfl) pe_dnewT)
      (pss_cons (ps_for PassesOwn.never rfl (pi_list (pe_call (ok_with_rows_beside T) (hr.mono (by decide)) (by rfl) T.g_with_rows_beside T.F_with_rows_beside.kp T.b_with_rows_beside .nil pass0 (pa_cons (pv 2) pa_nil))) (pg_tupK (K := K) (n := 2) rfl rfl (pgs_cons (pg_name (i := 5) sc_next_floor.nd rfl (.inl rfl)) (pgs_cons (pg_name (i := 6) sc_next_floor.nd rfl (.inl rfl)) pgs_nil)))
      (pss_cons (ps_set (i := 7) sc_next_floor.nd rfl (.inl rfl) (pe_dget2 hu (pv 2) (pe_tup (pa_cons (pe_op op_sub (pv 5) pe_int) (pa_cons (pv 6) pa_nil))) (pv 3) ⟨rfl, rfl, rfl, rfl⟩))
      (pss_cons (ps_set (i := 8) sc_next_floor.nd rfl (.inl rfl) (pe_dget2 hu (pv 2) (pe_tup (pa_cons (pv 5) (pa_cons (pv 6) pa_nil))) (pv 3) ⟨rfl, rfl, rfl, rfl⟩))
      (pss_cons (ps_set (i := 9) sc_next_floor.nd rfl (.inl rfl) (pe_dget2 hu (pv 2) (pe_tup (pa_cons (pe_op op_add (pv 5) pe_int) (pa_cons (pv 6) pa_nil))) (pv 3) ⟨rfl, rfl, rfl, rfl⟩))
      (pss_cons (ps_set (i := 10) sc_next_floor.nd rfl (.inl rfl) (pe_call (ok_next_strip T) (hr.mono (by decide)) (by rfl) T.g_next_strip T.F_next_strip.kp T.b_next_strip .nil pass0 (pa_cons (pe_dget2 hu (pv 0) (pe_tup (pa_cons (pv 5) (pa_cons (pv 6) pa_nil))) pe_int ⟨rfl, rfl, rfl, rfl⟩) (pa_cons (pe_call (ok_totals_of T) (hr.mono (by decide)) (by rfl) T.g_totals_of T.F_totals_of.kp T.b_totals_of .nil pass0 (pa_cons (pv 7) (pa_cons (pv 8) (pa_cons (pv 9) pa_nil)))) (pa_cons (pv 1) pa_nil)))))
      (pss_one (ps_if (pt_truth (pv 10) (by intro _; rfl))
      (pss_one (ps_dput hu (pv 4) (pe_tup (pa_cons (pv 5) (pa_cons (pv 6) pa_nil))) (pv 10) rfl))
      pss_nil)))))))
      (pss_one (ps_ret (pv 4))))))), ?_⟩
    k_upd
    refine ⟨_, rfl, d, ps, S, rfl, hF, by omega, b0, b1, fun H1 sd A n1 e1 hD1 hA1 => ?_⟩
    k_upd
    refine ⟨by k_clsL, fun pn nn => ?_⟩
    k_invariant "new" (nn, H2, e2, g2)
    k_upd
    refine fun ad na => ?_
    k_invariant "new" (na, H3, e3, g3)
    k_upd
    have hD2 := hD1.up e2
    have hA2 : ∀ x ∈ ps, H2 (A x.1) = some (.tup [.int (oneR S x.1 : Nat), .int (twoR S x.1 : Nat)]) := fun x m => e2 _ _ (hA1 x m)
    refine ⟨_, rfl, sd, ps, _, rfl, hD2.up e3, hF.2.1, by omega, fun H4 lp rs n4 e4 c4 nd4 mem4 l4 => ?_⟩
    obtain ⟨ts, hl, ht, ets⟩ := id c4
    refine ⟨lp, rfl, ⟨_, lst_of hl⟩, ?_⟩
    have lts : ts.length = rs.length := by rw [← ets, List.length_map]
    refine for_list (K := K) (a := lp) (xs := ts.map fun t => V.ref t.1) (fun i σ H' => Same H2 H' ∧ H' lp = some (.lst (ts.map fun t => V.ref t.1)) ∧ (∀ t ∈ ts, H' t.1 = some (.tup [.int t.2.1, .int t.2.2])) ∧
      (∃ x5 x6 x7 x8 x9 x10 : Option V, σ = [some (.ref d), some (.ref r), some (.ref sd), some (.ref pn), some (.ref ad), x5, x6, x7, x8, x9, x10]) ∧
      ∃ (qs : List Pr) (S' : Int → Nat), Floor H' ad qs S' ∧ (∀ r, S' r = if (r, 0) ∈ rs.take i then nextRow bs ss S r else 0) ∧ (∀ x ∈ qs, x ∈ rs) ∧ qs.length ≤ i)
      ⟨e3.trans e4, hl, ht, ⟨_, _, _, _, _, _, rfl⟩, [], fun _ => 0, ⟨(Dct.new _ g3).up e4, fun _ m => (by cases m), fun _ _ => rfl⟩, fun r => by simp, fun _ m => (by cases m), Nat.le_refl _⟩ (fun i σ H' _ p => lst_of p.2.1) ?_ ?_
    · rintro i x σ H' hi ⟨sm, hl', htt, ⟨x5, x6, x7, x8, x9, x10, rfl⟩, qs, S', hF', hS', mq, lq⟩
      obtain ⟨t, mt, rfl, hx⟩ := item_cells (H := H') hi rfl
      rw [ets] at hx
      have li : i < rs.length := (List.getElem?_eq_some_iff.mp hx).1
      have ht' := htt t mt
      obtain ⟨⟨ta, row, c0⟩, ht''⟩ : ∃ t' : Addr × Pr, t' = t := ⟨t, rfl⟩
      subst ht''
      dsimp only at ht' hx
      have zz : c0 = 0 := ((mem4 _).mp (List.mem_of_getElem? hx)).1
      subst zz
      have up : ∀ {Hx : Hp}, Same H' Hx → Dct Hx sd ps (fun x => .ref (A x.1)) ∧ (∀ x ∈ ps, Hx (A x.1) = some (.tup [.int (oneR S x.1 : Nat), .int (twoR S x.1 : Nat)])) ∧ Hx pn = some (.tup [.int 0, .int 0]) := fun sx =>
        ⟨hD2.up (sm.trans sx), fun x m => sx _ _ (sm _ _ (hA2 x m)), sx _ _ (sm _ _ g2)⟩
      refine ⟨ta, _, rfl, tup_of ht', rfl, _, _, rfl, _, _, rfl, rfl, ?_⟩
      k_upd
      refine ⟨_, rfl, sd, rfl, (hD2.up sm).isD, _, rfl, _, _, rfl, rfl, _, rfl, (by k_clsL), fun p5 n5 => ?_⟩
      k_invariant "new" (n5, H5, e5, g5)
      obtain ⟨u1, u2, u3⟩ := up e5
      obtain ⟨o5, pa, dg5, od5, ga⟩ := sum_get u1 u2 hF.2.2 u3 g5
      refine ⟨_, rfl, o5, dg5, ?_⟩
      rw [od5]
      k_upd
      have s5 := e5
      refine ⟨_, rfl, sd, rfl, u1.isD, _, rfl, _, rfl, (by k_clsL), fun p6 n6 => ?_⟩
      k_invariant "new" (n6, H6, e6, g6)
      obtain ⟨u1, u2, u3⟩ := up (s5.trans e6)
      obtain ⟨o6, ph, dg6, od6, gh⟩ := sum_get u1 u2 hF.2.2 u3 g6
      refine ⟨_, rfl, o6, dg6, ?_⟩
      rw [od6]
      k_upd
      have s6 := s5.trans e6
      refine ⟨_, rfl, sd, rfl, u1.isD, _, rfl, _, _, rfl, rfl, _, rfl, (by k_clsL), fun p7 n7 => ?_⟩
      k_invariant "new" (n7, H7, e7, g7)
      obtain ⟨u1, u2, u3⟩ := up (s6.trans e7)
      obtain ⟨o7, pb, dg7, od7, gb⟩ := sum_get u1 u2 hF.2.2 u3 g7
      refine ⟨_, rfl, o7, dg7, ?_⟩
      rw [od7]
      k_upd
      have s7 := s6.trans e7
      have ga := (e6.trans e7) _ _ ga
      have gh := e7 _ _ gh
      have hFd : Floor H7 d ps S := hF.up (e1.trans (e2.trans (sm.trans s7)))
      refine ⟨_, rfl, d, rfl, hFd.1.isD, _, rfl, _, rfl, (by k_clsL), fun p8 n8 => ?_⟩
      k_invariant "new" (n8, H8, e8, g8)
      refine ⟨_, (hFd.up e8).get g8, ?_⟩
      rw [Floor.getD hF.2.2]
      refine ⟨_, rfl, _, rfl, _, rfl, pa, ph, pb, _, _, _, _, _, _, rfl, e8 _ _ ga, e8 _ _ gh, e8 _ _ gb, fun H9 p9 e9 n9 g9 => ?_⟩
      refine ⟨_, rfl, p9, r, S row, _, _, _, _, bs, ss, rfl, g9, hR.up (e1.trans (e2.trans (sm.trans (s7.trans (e8.trans e9))))), fun b m => ?_, hss, fun H10 e10 => ?_⟩
      · have := hb b m
        omega
      have s10 : Same H' H10 := s7.trans (e8.trans (e9.trans e10))
      have eN : nextN (S row) (one9 (oneR S (row - 1)) (oneR S row) (oneR S (row + 1))) (two9 (oneR S (row - 1)) (twoR S (row - 1)) (oneR S row) (twoR S row) (oneR S (row + 1)) (twoR S (row + 1)))
        (four9 (oneR S (row - 1)) (twoR S (row - 1)) (oneR S row) (twoR S row) (oneR S (row + 1)) (twoR S (row + 1))) (eight9 (oneR S (row - 1)) (twoR S (row - 1)) (oneR S row) (twoR S row) (oneR S (row + 1)) (twoR S (row + 1))) bs ss = nextRow bs ss S row := rfl
      rw [eN]
      k_upd
      have notin := nodup_next nd4 hx
      by_cases z : nextRow bs ss S row = 0
      · refine ⟨_, rfl, _, tru0 z, iteF ?_⟩
        refine ⟨sm.trans s10, s10 _ _ hl', fun t m => s10 _ _ (htt t m), ⟨_, _, _, _, _, _, rfl⟩, qs, S', hF'.up s10, fun r => ?_, mq, by omega⟩
        rw [hS', take_next hx]
        by_cases e : r = row
        · rw [e, if_neg notin, if_pos (List.mem_append.mpr (.inr (List.mem_singleton.mpr rfl))), z]
        · have : (r, (0 : Int)) ∈ rs.take i ++ [(row, 0)] ↔ (r, (0 : Int)) ∈ rs.take i := by
            rw [List.mem_append, List.mem_singleton]
            exact ⟨fun h => h.elim id fun z => absurd (congrArg Prod.fst z) e, .inl⟩
          by_cases m : (r, (0 : Int)) ∈ rs.take i
          · rw [if_pos m, if_pos (this.mpr m)]
          · rw [if_neg m, if_neg fun z => m (this.mp z)]
      · refine ⟨_, rfl, _, tru1 z, iteT ?_⟩
        refine ⟨_, rfl, _, rfl, _, rfl, _, rfl, (by k_clsL), fun p11 n11 => ?_⟩
        k_invariant "new" (n11, H11, e11, g11)
        have hF11 := hF'.up (s10.trans e11)
        obtain ⟨H12, dp, pa12⟩ := hF11.1.dput (x := (row, 0)) (by rw [sizeLine_eq]; omega) g11 (.int ((nextRow bs ss S row : Nat) : Int))
        have off : ∀ (b : Addr) (o : HO), H11 b = some o → (∀ kvs, o ≠ .dT kvs) → H12 b = some o := fun b o e ne => by
          rw [pa12.2 b fun z => ?_]
          · exact e
          · obtain ⟨kvs, h1, _⟩ := hF11.1
            rw [z, h1] at e
            exact ne kvs (Option.some.inj e).symm
        have s11 := s10.trans e11
        refine ⟨ad, H12, rfl, dp, pa12.mut (sm.trans s11) na, off _ _ (s11 _ _ hl') (fun _ z => by cases z), fun t m => off _ _ (s11 _ _ (htt t m)) (fun _ z => by cases z), ⟨_, _, _, _, _, _, rfl⟩, addK qs (row, 0), _, hF11.put pa12, fun r => ?_, fun x m => ?_, Nat.le_trans addK_len (Nat.add_le_add_right lq 1)⟩
        · rw [hS', take_next hx]
          by_cases e : r = row
          · rw [if_pos e, e, if_pos (List.mem_append.mpr (.inr (List.mem_singleton.mpr rfl)))]
          · rw [if_neg e]
            have : (r, (0 : Int)) ∈ rs.take i ++ [(row, 0)] ↔ (r, (0 : Int)) ∈ rs.take i := by
              rw [List.mem_append, List.mem_singleton]
              exact ⟨fun h => h.elim id fun z => absurd (congrArg Prod.fst z) e, .inl⟩
            by_cases m : (r, (0 : Int)) ∈ rs.take i
            · rw [if_pos m, if_pos (this.mpr m)]
            · rw [if_neg m, if_neg fun z => m (this.mp z)]
        · rcases mem_addK.mp m with m | e
          · exact mq x m
          · rw [e]
            exact List.mem_of_getElem? hx
    · rintro σ H' ⟨sm, hl', htt, ⟨x5, x6, x7, x8, x9, x10, rfl⟩, qs, S', hF', hS', mq, lq⟩
      rw [List.length_map, List.take_of_length_le (by omega)] at hS'
      have eS : S' = nextRow bs ss S := by
        funext r
        rw [hS']
        by_cases m : (r, (0 : Int)) ∈ rs
        · rw [if_pos m]
        · rw [if_neg m]
          have no : ∀ x : Int, (x = r - 1 ∨ x = r ∨ x = r + 1) → S x = 0 := fun x hx => hF.2.2 x fun mx => m ((mem4 _).mpr ⟨rfl, (x, 0), mx, by
            show r = x - 1 ∨ r = x ∨ r = x + 1
            omega⟩)
          exact (nextRow_zero (no _ (.inl rfl)) (no _ (.inr (.inl rfl))) (no _ (.inr (.inr rfl)))).symm
      rw [eS] at hF'
      refine ⟨_, rfl, q H' ad qs (backS (e1.trans e2) na) (e1.trans (e2.trans sm)) hF' fun x m => ((mem4 x).mp (mq x m)).2⟩
end
end My
namespace My
open PySem PySem.Spec PyProof.Rows L2 Vx
open TL
local macro_rules | `(tactic| k_invariant "new" ($n, $H:ident, $e:ident, $h:ident)) => `(tactic| (generalize hE : upd _ _ _ = $H; obtain ⟨$e:ident, $h:ident⟩ := gen_e hE $n; clear hE))
local macro_rules | `(tactic| k_places) => `(tactic| first
  | assumption
  | exact lst_of (by assumption)
  | exact tup_of (by assumption)
  | (refine getS (by assumption) ?_; k_places)
  | (refine Same.seq (by assumption) ?_; k_places)
  | (refine tupS (by assumption) ?_; k_places)
  | (refine lst_of ?_; k_places)
  | (refine tup_of ?_; k_places))
local macro_rules | `(tactic| k_subL) => `(tactic| first
  | k_places
  | solve_by_elim (maxDepth := 10) [getS, lst_of, tup_of, Same.seq, tupS])
local macro_rules | `(tactic| k_offL) => `(tactic| first
  | (show (0 : Int) < _; first | omega | decide)
  | (refine ⟨?_, ?_⟩ <;> first | omega | decide)
  | exact .inr ⟨by decide, by decide⟩
  | exact .inl ⟨by decide, by decide⟩
  | exact .inl ⟨by omega, by omega⟩
  | omega)
local macro_rules | `(tactic| k_clsL) => `(tactic| exact Nat.le_of_ble_eq_true rfl)
local macro_rules | `(tactic| k_upd) => `(tactic| simp only [L2.start, List.map_cons, List.map_nil, List.length_cons, List.length_nil, List.replicate_succ, List.replicate_zero, List.cons_append, List.nil_append, List.set_cons_zero, List.set_cons_succ])
section
variable {P : Program} {w : World} {K : PySem.W.Frag} {mg : Str → Option Value} {base : Heap}
def rowCells (first : Int) (S : Int → Nat) (x : Pr) : List Pr := (bitsB 2048 (S x.1)).map fun (j : Nat) => (x.1, first + (j : Int))
theorem bitsB_len (N n : Nat) : (bitsB N n).length ≤ N := by
  unfold bitsB
  exact Nat.le_trans (List.length_filter_le _ _) (by rw [List.length_range]; exact Nat.le_refl _)
theorem flat_len {α : Type} (f : Pr → List α) (B : Nat) (h : ∀ x, (f x).length ≤ B) : ∀ l : List Pr, ((l.map f).flatten).length ≤ l.length * B
  | [] => by simp
  | x :: l => by
    rw [List.map_cons, List.flatten_cons, List.length_append, List.length_cons, Nat.add_mul, Nat.one_mul]
    have := flat_len f B h l
    have := h x
    omega
theorem bitsB_asc (N n : Nat) : (bitsB N n).Pairwise (· < ·) := List.Pairwise.filter _ List.pairwise_lt_range
def sp_cells_of : Sp := fun vs H Q _ => ∃ (d : Addr) (first : Int) (ps : List Pr) (S : Int → Nat), vs = [.ref d, .int first] ∧ Floor H d ps S ∧ ps.length < 5000 ∧ (∀ r, S r < 2 ^ 2048) ∧
  ∀ (H' : Hp) (p : Addr) (qs : List Pr), H p = none → Same H H' → Cells H' p qs → qs.Pairwise ltP → (∀ x, x ∈ qs ↔ liveS first S x.1 x.2 = true) → Q (.ref p) H'
theorem ok_cells_of (T : Txt K mg) : FnOk P w K mg base CX0 1 T.f_cells_of T.d_cells_of ["floor", "first"] sp_cells_of := by
  refine T.F_cells_of.ok sc_cells_of (fun vs H Q E h => ?_) (fun cdv A outer s H vs Q E hr h => ?_)
  · obtain ⟨_, _, _, _, rfl, _⟩ := h
    rfl
  · obtain ⟨d, first, ps, S, rfl, hF, few, b1, q⟩ := h
    have hu : (A.deeper (envOfC (Str.ofString "cells_of") (defScope s_cells_of) s.heap.objs.size T.f_cells_of cdv)).units + 1 < cLine := by
      have := hr.units
      omega
    refine ⟨_, (pss_cons (ps_set (i := 2) sc_cells_of.nd rfl (.inl rfl) (pe_lst pa_nil))
      (pss_cons (ps_for PassesOwn.never rfl (pi_list (pe_callB (cr_sortedDT rfl) (by rfl) T.z_sorted (by decide +kernel) (pa_cons (pv 0) pa_nil))) (pg_tupK (K := K) (n := 2) rfl rfl (pgs_cons (pg_name (i := 3) sc_cells_of.nd rfl (.inl rfl)) (pgs_cons (pg_name (i := 4) sc_cells_of.nd rfl (.inl rfl)) pgs_nil)))
      (pss_cons (ps_set (i := 5) sc_cells_of.nd rfl (.inl rfl) (pe_op op_add (pv 1) (pe_op op_mul (pv 4) (pe_gcx (by rfl) T.c_WIDTH))))
      (pss_cons (ps_set (i := 6) sc_cells_of.nd rfl (.inl rfl) (pe_dget hu (pv 0) (pe_tup (pa_cons (pv 3) (pa_cons (pv 4) pa_nil))) (fun _ _ => rfl)))
      (pss_one (ps_while PassesOwn.never (pt_truth (pv 6) (by intro _; rfl))
      (pss_cons (ps_set (i := 7) sc_cells_of.nd rfl (.inl rfl) (pe_op op_and (pv 6) (pe_un un_neg (pv 6))))
      (pss_cons (ps_expr (pe_bm PySem.F.plainAttrs_list PySem.F.slot_list_append PySem.F.type_list_append mt_append (pv 2) (pa_cons (pe_tup (pa_cons (pv 3) (pa_cons (pe_op op_sub (pe_op op_add (pv 5) (pe_bits (pv 7))) pe_int) pa_nil))) pa_nil)))
      (pss_one (ps_aug (i := 6) sc_cells_of.nd rfl (.inl rfl) (pv 7) ip_xorNN)))))))))
      (pss_one (ps_ret (pv 2))))), ?_⟩
    k_upd
    refine ⟨by k_clsL, fun cl nc => ?_⟩
    k_invariant "new" (nc, H1, e1, g1)
    k_upd
    refine ⟨_, rfl, d, ps, _, rfl, hF.1.up e1, fun lp H2 ks e2 n2 c2 hks lks => ?_⟩
    obtain ⟨ts, hl, ht, ets⟩ := id c2
    have lts : ts.length = ks.length := by rw [← ets, List.length_map]
    refine ⟨lp, rfl, ⟨_, lst_of hl⟩, ?_⟩
    have nelc : lp ≠ cl := fun e => by rw [e, g1] at n2; cases n2
    have small : ∀ i, (((ks.take i).map (rowCells first S)).flatten).length ≤ 5000 * 2048 := fun i => by
      refine Nat.le_trans (flat_len (rowCells first S) 2048 (fun x => ?_) _) (Nat.mul_le_mul_right _ ?_)
      · unfold rowCells
        rw [List.length_map]
        exact bitsB_len _ _
      · rw [List.length_take]
        omega
    refine for_list (K := K) (a := lp) (xs := ts.map fun t => V.ref t.1) (fun i σ H' => Same H H' ∧ H' lp = some (.lst (ts.map fun t => V.ref t.1)) ∧ (∀ t ∈ ts, H' t.1 = some (.tup [.int t.2.1, .int t.2.2])) ∧
      (∃ x3 x4 x5 x6 x7 : Option V, σ = [some (.ref d), some (.int first), some (.ref cl), x3, x4, x5, x6, x7]) ∧
      ∃ us : List (Addr × Pr), H' cl = some (.lst (us.map fun t => V.ref t.1)) ∧ (∀ t ∈ us, H' t.1 = some (.tup [.int t.2.1, .int t.2.2])) ∧ us.map (·.2) = ((ks.take i).map (rowCells first S)).flatten)
      ⟨e1.trans e2, hl, ht, ⟨_, _, _, _, _, rfl⟩, [], e2 _ _ g1, fun _ m => (by cases m), rfl⟩ (fun i σ H' _ p => lst_of p.2.1) ?_ ?_
    · rintro i x σ H' hi ⟨sm, hl', htt, ⟨x3, x4, x5, x6, x7, rfl⟩, us, hus, htu, eus⟩
      obtain ⟨t, mt, rfl, hx⟩ := item_cells (H := H') hi rfl
      rw [ets] at hx
      have li : i < ks.length := (List.getElem?_eq_some_iff.mp hx).1
      have ht' := htt t mt
      obtain ⟨⟨ta, row, c0⟩, ht''⟩ : ∃ t' : Addr × Pr, t' = t := ⟨t, rfl⟩
      subst ht''
      dsimp only at ht' hx
      have mk : (row, c0) ∈ ps := (hks.2 _).mp (List.mem_of_getElem? hx)
      have zz : c0 = 0 := hF.2.1 _ mk
      subst zz
      refine ⟨ta, _, rfl, tup_of ht', rfl, _, _, rfl, _, _, rfl, rfl, ?_⟩
      k_upd
      refine ⟨_, rfl, _, rfl, _, _, rfl, rfl, .inl ⟨by decide, by decide⟩, _, _, rfl, rfl, ?_⟩
      k_upd
      rw [Int.zero_mul, Int.add_zero]
      refine ⟨_, rfl, _, rfl, _, rfl, (by k_clsL), fun p3 n3 => ?_⟩
      k_invariant "new" (n3, H3, e3, g3)
      have dg := (hF.up (sm.trans e3)).get g3
      rw [if_pos mk] at dg
      refine ⟨d, _, rfl, dg, ?_⟩
      k_upd
      refine while_by (fun σ H' => Same H H' ∧ H' lp = some (.lst (ts.map fun t => V.ref t.1)) ∧ (∀ t ∈ ts, H' t.1 = some (.tup [.int t.2.1, .int t.2.2])) ∧
        ∃ (R : Nat) (x7 : Option V), σ = [some (.ref d), some (.int first), some (.ref cl), some (.int row), some (.int 0), some (.int first), some (.int (R : Int)), x7] ∧ R < 2 ^ 2048 ∧
          ∃ us : List (Addr × Pr), H' cl = some (.lst (us.map fun t => V.ref t.1)) ∧ (∀ t ∈ us, H' t.1 = some (.tup [.int t.2.1, .int t.2.2])) ∧ us.map (·.2) ++ (bitsB 2048 R).map (fun (j : Nat) => ((row, first + (j : Int)) : Pr)) = ((ks.take (i + 1)).map (rowCells first S)).flatten)
        (fun σ _ => match σ with | [_, _, _, _, _, _, some (.int R), _] => (bitsB 2048 R.toNat).length | _ => 0)
        ⟨sm.trans e3, e3 _ _ hl', fun t m => e3 _ _ (htt t m), S row, _, rfl, b1 row, us, e3 _ _ hus, fun t m => e3 _ _ (htu t m), ?_⟩ ?_ ?_
      · rw [eus, take_next hx, List.map_append, List.flatten_append]
        congr 1
        show _ = (rowCells first S (row, 0) :: []).flatten
        rw [List.flatten_cons, List.flatten_nil, List.append_nil]
        rfl
      · rintro σ H4 ⟨sm, hl', htt, R, x7, rfl, lR, us, hus, htu, eus⟩
        by_cases z : R = 0
        · refine ⟨_, rfl, _, tru0 z, iteF ?_⟩
          rw [z, bits_zero, List.map_nil, List.append_nil] at eus
          exact ⟨sm, hl', htt, ⟨_, _, _, _, _, rfl⟩, us, hus, htu, eus⟩
        · obtain ⟨k, a, eR⟩ := low_bit R z
          subst eR
          refine ⟨_, rfl, _, tru1 z, iteT ?_⟩
          refine ⟨_, rfl, _, rfl, _, rfl, _, _, rfl, rfl, ?_⟩
          k_upd
          rw [low_and]
          have lu : us.length < sizeLine := by
            have s1 := small (i + 1)
            rw [← eus, List.length_append, List.length_map] at s1
            rw [sizeLine_eq]
            omega
          refine ⟨_, rfl, .inl ⟨rfl, _, lst_of hus⟩, _, rfl, _, rfl, _, rfl, _, rfl, ?_⟩
          rw [intBits_pow]
          refine ⟨_, _, rfl, rfl, _, _, rfl, rfl, (by k_clsL), ?_⟩
          dsimp only
          rw [show first + ((k + 1 : Nat) : Int) - 1 = first + (k : Int) by omega]
          refine fun p5 n5 => ?_
          k_invariant "new" (n5, H5, e5, g5)
          refine ⟨_, _, _, rfl, rfl, e5 _ _ hus, by rw [List.length_map]; exact lu, ?_⟩
          refine ⟨_, rfl, _, rfl, _, _, rfl, rfl, ?_⟩
          rw [low_xor]
          k_upd
          have off : ∀ (b : Addr) (o : HO), H5 b = some o → (∀ xs, o ≠ .lst xs) → upd H5 cl (.lst ((us.map fun t => V.ref t.1) ++ [.ref p5])) b = some o := fun b o e ne => by
            rw [upd_ne fun z => ?_]
            · exact e
            · rw [z, e5 _ _ hus] at e
              exact ne _ (Option.some.inj e).symm
          have low := bits_low (N := 2048) lR
          refine ⟨⟨mutS (sm.trans e5) nc, ?_, fun t m => off _ _ (e5 _ _ (htt t m)) (fun _ z => by cases z), _, _, rfl, Nat.lt_of_le_of_lt ?_ lR, us ++ [(p5, (row, first + (k : Int)))], ?_, fun t m => ?_, ?_⟩, ?_⟩
          · rw [upd_ne nelc]
            exact e5 _ _ hl'
          · exact Nat.mul_le_mul_left _ (by omega)
          · rw [upd_same, List.map_append]
            rfl
          · rcases List.mem_append.mp m with m | m
            · exact off _ _ (e5 _ _ (htu t m)) (fun _ z => by cases z)
            · rw [List.mem_singleton.mp m]
              exact off _ _ g5 (fun _ z => by cases z)
          · rw [List.map_append, ← eus, low, List.map_cons, List.append_assoc]
            rfl
          · show (bitsB 2048 (((2 ^ k * (2 * a) : Nat) : Int)).toNat).length < (bitsB 2048 (((2 ^ k * (2 * a + 1) : Nat) : Int)).toNat).length
            rw [Int.toNat_natCast, Int.toNat_natCast, low, List.length_cons]
            exact Nat.lt_succ_self _
      · exact fun σ H Q Q' m h => h.elim fun v h => ⟨v, h.1, h.2.elim fun k h => ⟨k, h.1, m _ _ h.2⟩⟩
    · rintro σ H' ⟨sm, hl', htt, ⟨x3, x4, x5, x6, x7, rfl⟩, us, hus, htu, eus⟩
      rw [List.length_map, List.take_of_length_le (by omega)] at eus
      refine ⟨_, rfl, q H' cl (us.map (·.2)) nc sm ⟨us, hus, htu, rfl⟩ ?_ fun x => ?_⟩
      · rw [eus, List.pairwise_flatten]
        refine ⟨fun l ml => ?_, ?_⟩
        · obtain ⟨x, mx, rfl⟩ := List.mem_map.mp ml
          unfold rowCells
          refine List.pairwise_map.mpr ((bitsB_asc 2048 (S x.1)).imp (S := fun a b => Vx.ltP (x.1, first + ((a : Nat) : Int)) (x.1, first + ((b : Nat) : Int))) fun {a b} (h : a < b) => ltP_iff.mpr (.inr ⟨rfl, by show first + ((a : Nat) : Int) < first + ((b : Nat) : Int); omega⟩))
        · refine List.pairwise_map.mpr (hks.1.imp_of_mem fun {a b} ma mb h => fun u mu v mv => ?_)
          obtain ⟨j, _, rfl⟩ := List.mem_map.mp mu
          obtain ⟨k, _, rfl⟩ := List.mem_map.mp mv
          have a0 := hF.2.1 a ((hks.2 a).mp ma)
          have b0 := hF.2.1 b ((hks.2 b).mp mb)
          refine ltP_iff.mpr (.inl ?_)
          have := ltP_iff.mp h
          show a.1 < b.1
          omega
      · rw [eus, List.mem_flatten]
        constructor
        · rintro ⟨l, ml, mx⟩
          obtain ⟨y, my, rfl⟩ := List.mem_map.mp ml
          obtain ⟨j, mj, rfl⟩ := List.mem_map.mp mx
          rw [liveS_at (j := j) (by omega)]
          exact (mem_bitsB.mp mj).2
        · intro h
          unfold liveS at h
          rw [Bool.and_eq_true, decide_eq_true_iff] at h
          have nz : S x.1 ≠ 0 := fun z => by
            rw [z, Nat.zero_testBit] at h
            exact Bool.noConfusion h.2
          have mx : (x.1, (0 : Int)) ∈ ps := Decidable.byContradiction fun z => nz (hF.2.2 _ z)
          refine ⟨rowCells first S (x.1, 0), List.mem_map.mpr ⟨_, (hks.2 _).mpr mx, rfl⟩, List.mem_map.mpr ⟨(x.2 - first).toNat, mem_bitsB.mpr ⟨?_, h.2⟩, ?_⟩⟩
          · refine Decidable.byContradiction fun z => ?_
            rw [Nat.testBit_lt_two_pow (Nat.lt_of_lt_of_le (b1 x.1) (Nat.pow_le_pow_right (by decide) (by omega)))] at h
            exact Bool.noConfusion h.2
          · refine Prod.ext rfl ?_
            show first + (((x.2 - first).toNat : Nat) : Int) = x.2
            omega
end
end My
namespace My
open PySem PySem.Spec PyProof.Rows L2 Vx
open TL
local macro_rules | `(tactic| k_invariant "new" ($n, $H:ident, $e:ident, $h:ident)) => `(tactic| (generalize hE : upd _ _ _ = $H; obtain ⟨$e:ident, $h:ident⟩ := gen_e hE $n; clear hE))
local macro_rules | `(tactic| k_places) => `(tactic| first
  | assumption
  | exact lst_of (by assumption)
  | exact tup_of (by assumption)
  | (refine getS (by assumption) ?_; k_places)
  | (refine Same.seq (by assumption) ?_; k_places)
  | (refine tupS (by assumption) ?_; k_places)
  | (refine lst_of ?_; k_places)
  | (refine tup_of ?_; k_places))
local macro_rules | `(tactic| k_subL) => `(tactic| first
  | k_places
  | solve_by_elim (maxDepth := 10) [getS, lst_of, tup_of, Same.seq, tupS])
local macro_rules | `(tactic| k_offL) => `(tactic| first
  | (show (0 : Int) < _; first | omega | decide)
  | (refine ⟨?_, ?_⟩ <;> first | omega | decide)
  | exact .inr ⟨by decide, by decide⟩
  | exact .inl ⟨by decide, by decide⟩
  | exact .inl ⟨by omega, by omega⟩
  | omega)
local macro_rules | `(tactic| k_clsL) => `(tactic| exact Nat.le_of_ble_eq_true rfl)
local macro_rules | `(tactic| k_upd) => `(tactic| simp only [L2.start, List.map_cons, List.map_nil, List.length_cons, List.length_nil, List.replicate_succ, List.replicate_zero, List.cons_append, List.nil_append, List.set_cons_zero, List.set_cons_succ])
section
variable {P : Program} {w : World} {K : PySem.W.Frag} {mg : Str → Option Value} {base : Heap}
def memL (ps : List Pr) (r c : Int) : Bool := decide ((r, c) ∈ ps)
theorem stepL_near {bs ss : List Int} {L : Int → Int → Bool} {r c : Int} (hb : ∀ b ∈ bs, 1 ≤ b ∧ b ≤ 8) (h : stepL bs ss L r c = true) : ∃ r' c', r - 1 ≤ r' ∧ r' ≤ r + 1 ∧ c - 1 ≤ c' ∧ c' ≤ c + 1 ∧ L r' c' = true := by
  by_cases z : L r c = true
  · exact ⟨r, c, by omega, by omega, by omega, by omega, z⟩
  · unfold stepL at h
    rw [if_neg z] at h
    have m := hb _ (of_decide_eq_true h)
    refine Classical.byContradiction fun no => ?_
    have off : ∀ r' c', r - 1 ≤ r' → r' ≤ r + 1 → c - 1 ≤ c' → c' ≤ c + 1 → L r' c' = false := fun r' c' a1 a2 a3 a4 => by
      cases e : L r' c' with
      | false => rfl
      | true => exact absurd ⟨r', c', a1, a2, a3, a4, e⟩ no
    have e : nb L r c = 0 := by
      unfold nb
      rw [off (r - 1) (c - 1), off (r - 1) c, off (r - 1) (c + 1), off r (c - 1), off r (c + 1), off (r + 1) (c - 1), off (r + 1) c, off (r + 1) (c + 1)] <;> first | rfl | omega
    rw [e] at m
    omega
theorem stepL_congr {bs ss : List Int} {L M : Int → Int → Bool} (h : ∀ r c, L r c = M r c) (r c : Int) : stepL bs ss L r c = stepL bs ss M r c := by
  have e : L = M := funext fun r => funext fun c => h r c
  rw [e]
theorem genL_none {bs ss : List Int} {L : Int → Int → Bool} (hb : ∀ b ∈ bs, 1 ≤ b ∧ b ≤ 8) (h : ∀ r c, L r c = false) : ∀ n r c, genL bs ss L n r c = false
  | 0, r, c => h r c
  | n + 1, r, c => by
    cases e : genL bs ss L (n + 1) r c with
    | false => rfl
    | true =>
      obtain ⟨r', c', _, _, _, _, z⟩ := stepL_near hb e
      rw [genL_none hb h n] at z
      cases z
theorem rows_len {qs : List Pr} {a b : Int} (nd : qs.Nodup) (z0 : ∀ x ∈ qs, x.2 = 0) (h : ∀ x ∈ qs, a ≤ x.1 ∧ x.1 ≤ b) : qs.length ≤ (b - a + 1).toNat := by
  have nd2 : (qs.map fun x => (x.1 - a).toNat).Nodup := by
    refine List.pairwise_map.mpr (nd.imp_of_mem fun {x y} mx my ne e => ne ?_)
    have := h x mx
    have := h y my
    exact Prod.ext (by omega) (by rw [z0 x mx, z0 y my])
  have := nat_nodup_len _ (List.range (b - a + 1).toNat) nd2 fun k m => by
    obtain ⟨x, mx, rfl⟩ := List.mem_map.mp m
    have := h x mx
    rw [List.mem_range]
    omega
  rwa [List.length_map, List.length_range] at this
theorem live_low {first : Int} {S : Int → Nat} {a : Int} (h : ∀ r c, liveS first S r c = true → a ≤ c - first) (ha : 1 ≤ a) (r : Int) : S r &&& 1 = 0 := by
  rw [Nat.and_one_is_mod]
  have t := Nat.testBit_zero (S r)
  cases e : (S r).testBit 0 with
  | true =>
    have := h r first (by rw [liveS_at (j := 0) (by omega)]; exact e)
    omega
  | false =>
    rw [e] at t
    have := of_decide_eq_false t.symm
    omega
theorem live_high {first : Int} {S : Int → Nat} {b : Int} {N : Nat} (h : ∀ r c, liveS first S r c = true → c - first ≤ b) (hb : b < (N : Int)) (r : Int) : S r < 2 ^ N := by
  refine Nat.lt_pow_two_of_testBit _ fun i hi => ?_
  cases e : (S r).testBit i with
  | false => rfl
  | true =>
    have := h r (first + (i : Int)) (by rw [liveS_at (j := i) (by omega)]; exact e)
    omega
def sp_grown (C : Addr) : Sp := fun vs H Q _ => ∃ (l r : Addr) (n : Int) (ps : List Pr) (bs ss : List Int) (r0 c0 : Int), vs = [.ref l, .ref r, .int n] ∧ 0 ≤ n ∧ n ≤ 500 ∧ Cells H l ps ∧ RuleAt C H r bs ss ∧ (∀ b ∈ bs, 1 ≤ b ∧ b ≤ 8) ∧ (∀ b ∈ ss, 0 ≤ b ∧ b ≤ 8) ∧ ps.length < 10000 ∧
  (∀ x ∈ ps, r0 ≤ x.1 ∧ x.1 ≤ r0 + 1000 ∧ c0 ≤ x.2 ∧ x.2 ≤ c0 + 1000) ∧
  ∀ (H' : Hp) (p : Addr) (qs : List Pr), H p = none → Same H H' → Cells H' p qs → qs.Pairwise ltP → (∀ x, x ∈ qs ↔ genL bs ss (memL ps) n.toNat x.1 x.2 = true) → Q (.ref p) H'
theorem ok_grown (T : Txt K mg) : FnOk P w K mg base CX0 4 T.f_grown T.d_grown ["cells", "rule", "generations"] (sp_grown T.C_Rule) := by
  refine T.F_grown.ok sc_grown (fun vs H Q E h => ?_) (fun cdv A outer s H vs Q E hr h => ?_)
  · obtain ⟨_, _, _, _, _, _, _, _, rfl, _⟩ := h
    rfl
  · obtain ⟨l, r, n, ps, bs, ss, r0, c0, rfl, n0, n1, hC, hR, hb, hss, few, box, q⟩ := h
    refine ⟨_, (pss_cons (ps_if (pt_not (pt_truth (pv 0) (by intro _; rfl)))
      (pss_one (ps_ret (pe_lst pa_nil)))
      pss_nil)
      (pss_cons (ps_set (i := 3) sc_grown.nd rfl (.inl rfl) (pe_op op_sub (pe_callB (cr_min rfl) (by rfl) T.z_min (by decide +kernel) (pa_cons (pe_lc (own := [("_", 5), ("column", 6)]) (tt := tYes) rfl sc_grown.nd (pi_list (pv 0)) (blkOk_by (own := [("_", 5), ("column", 6)]) (N := N_grown) (sc := defScope s_grown) (by decide +kernel)) (fun _ _ _ _ _ => (pg_tupK (K := K) (n := 2) rfl rfl (pgs_cons (pg_name (i := 5) sc_grown.nd rfl (.inl rfl)) (pgs_cons (pg_name (i := 6) sc_grown.nd rfl (.inl rfl)) pgs_nil)))) (fun _ _ _ _ _ => pts_nil) (fun _ _ _ _ _ => (pv 6))) pa_nil)) (pv 2)))
      (pss_cons (ps_set (i := 4) sc_grown.nd rfl (.inl rfl) (pe_call (ok_floor_of T) (hr.mono (by decide)) (by rfl) T.g_floor_of T.F_floor_of.kp T.b_floor_of .nil pass0 (pa_cons (pv 0) (pa_cons (pv 3) pa_nil))))
      (pss_cons (ps_for PassesOwn.never rfl (pi_range1 (by rfl) T.z_range (pa_cons (pv 2) pa_nil)) (pg_name (i := 5) sc_grown.nd rfl (.inl rfl))
      (pss_one (ps_set (i := 4) sc_grown.nd rfl (.inl rfl) (pe_call (ok_next_floor T) (hr.mono (by decide)) (by rfl) T.g_next_floor T.F_next_floor.kp T.b_next_floor .nil pass0 (pa_cons (pv 4) (pa_cons (pv 1) pa_nil))))))
      (pss_one (ps_ret (pe_call (ok_cells_of T) (hr.mono (by decide)) (by rfl) T.g_cells_of T.F_cells_of.kp T.b_cells_of .nil pass0 (pa_cons (pv 4) (pa_cons (pv 3) pa_nil))))))))), ?_⟩
    k_upd
    refine ⟨_, rfl, _, truC hC, ?_⟩
    cases ps with
    | nil =>
      refine iteT ?_
      refine ⟨by k_clsL, fun p np => q _ p [] np (newS np) ⟨[], upd_same, fun _ m => (by cases m), rfl⟩ List.Pairwise.nil fun x => ?_⟩
      rw [genL_none (L := memL []) hb (fun _ _ => by simp [memL])]
      exact ⟨fun m => (by cases m), fun z => Bool.noConfusion z⟩
    | cons y0 ps =>
      refine iteF ?_
      refine ⟨_, rfl, _, rfl, ⟨_, lst_of hC.choose_spec.1⟩, fun D nD => lc_nums (·.2) hC nD (by rw [sizeLine_eq]; omega) ?_ fun H1 e1 h1 => ?_⟩
      · intro t x H' Po Pn _ ht hq
        exact ⟨t, _, rfl, tup_of ht, rfl, _, _, rfl, _, _, rfl, rfl, wipe2 _ 5 6 _ _, tyesT ⟨_, rfl, hq⟩⟩
      refine ⟨_, _, rfl, lst_of h1, by simp, fun b mb lb => ?_⟩
      obtain ⟨yb, myb, eyb⟩ := List.mem_map.mp mb
      have bb := box yb myb
      have eyb : yb.2 = b := eyb
      have lb : ∀ x ∈ y0 :: ps, b ≤ x.2 := fun x m => lb _ (List.mem_map.mpr ⟨x, m, rfl⟩)
      refine ⟨_, rfl, _, _, rfl, rfl, ?_⟩
      k_upd
      obtain ⟨n, rfl⟩ := Int.eq_ofNat_of_zero_le n0
      obtain ⟨first, ef⟩ : ∃ first, first = b - (n : Int) := ⟨_, rfl⟩
      rw [← ef]
      refine ⟨_, rfl, _, rfl, l, first, y0 :: ps, rfl, hC.up e1, few, fun x m => ?_, fun H2 d qs S n2 e2 hF hS hq => ?_⟩
      · have := box x m
        have := lb x m
        omega
      have lS : ∀ r c, liveS first S r c = memL (y0 :: ps) r c := fun r c => by
        unfold memL
        rw [Bool.eq_iff_iff, decide_eq_true_iff]
        by_cases z : c - first < 0
        · rw [liveS_low z]
          refine ⟨fun z => Bool.noConfusion z, fun m => ?_⟩
          have := lb _ m
          dsimp only at this
          omega
        · obtain ⟨j, ej⟩ := Int.eq_ofNat_of_zero_le (show 0 ≤ c - first by omega)
          rw [liveS_at ej, hS]
          constructor
          · rintro ⟨x, m, a1, a2⟩
            have : x = (r, c) := Prod.ext a1 (by show x.2 = c; omega)
            rwa [this] at m
          · exact fun m => ⟨_, m, rfl, ej⟩
      k_upd
      refine ⟨_, rfl, _, rfl, by omega, by omega, for_range (lo := 0) (n := n) (fun i σ H' => Same H H' ∧ (∃ (x5 x6 : Option V) (d : Addr) (qs : List Pr) (S : Int → Nat), σ = [some (.ref l), some (.ref r), some (.int (n : Int)), some (.int first), some (.ref d), x5, x6] ∧ Floor H' d qs S ∧
          (∀ r c, liveS first S r c = genL bs ss (memL (y0 :: ps)) i r c) ∧ (∀ r c, liveS first S r c = true → (n : Int) - (i : Int) ≤ c - first ∧ c - first ≤ n + 1000 + (i : Int)) ∧ (∀ x ∈ qs, r0 - (i : Int) ≤ x.1 ∧ x.1 ≤ r0 + 1000 + (i : Int))))
        ⟨e1.trans e2, _, _, d, qs, S, rfl, hF, lS, fun r c z => ?_, fun x m => ?_⟩ ?_ ?_⟩
      · rw [lS] at z
        have m := of_decide_eq_true z
        have h3 := box _ m
        have h4 := lb _ m
        dsimp only at h3 h4
        omega
      · obtain ⟨y, my, ey⟩ := hq x m
        have := box y my
        omega
      · rintro i σ H' hi ⟨sm, x5, x6, d, qs, S, rfl, hF, hL, hc, hrw⟩
        have few2 : qs.length < 5000 := by
          have := rows_len hF.1.choose_spec.2.2 hF.2.1 hrw
          omega
        have b0 := live_low (a := (n : Int) - i) (fun r c z => (hc r c z).1) (by omega)
        have b1 := live_high (b := (n : Int) + 1000 + i) (N := 2047) (fun r c z => (hc r c z).2) (by omega)
        refine ⟨_, rfl, _, rfl, d, r, qs, S, bs, ss, rfl, hF, hR.up sm, hb, hss, few2, b0, b1, fun H3 d3 qs3 n3 e3 hF3 hq3 => ?_⟩
        have hL3 : ∀ r c, liveS first (nextRow bs ss S) r c = genL bs ss (memL (y0 :: ps)) (i + 1) r c := fun r c => by
          rw [nextRow_live first hb hss b0]
          exact stepL_congr hL r c
        refine ⟨sm.trans e3, _, _, d3, qs3, _, rfl, hF3, hL3, fun r c z => ?_, fun x m => ?_⟩
        · rw [nextRow_live first hb hss b0] at z
          obtain ⟨r', c', a1, a2, a3, a4, z⟩ := stepL_near hb z
          have := hc r' c' z
          omega
        · obtain ⟨y, my, ey⟩ := hq3 x m
          have := hrw y my
          omega
      · rintro σ H' ⟨sm, x5, x6, d, qs, S, rfl, hF, hL, hc, hrw⟩
        have few2 : qs.length < 5000 := by
          have := rows_len hF.1.choose_spec.2.2 hF.2.1 hrw
          omega
        refine ⟨_, rfl, _, rfl, d, first, qs, S, rfl, hF, few2, live_high (b := (n : Int) + 1000 + n) (N := 2048) (fun r c z => (hc r c z).2) (by omega), fun H3 p qs3 n3 e3 c3 pw mem => ?_⟩
        refine q H3 p qs3 (backS sm n3) (sm.trans e3) c3 pw fun x => ?_
        rw [mem, hL]
        exact Iff.rfl
end
end My
namespace My
open PySem PySem.Spec PyProof.Rows L2 Vx
open TL
local macro_rules | `(tactic| k_invariant "new" ($n, $H:ident, $e:ident, $h:ident)) => `(tactic| (generalize hE : upd _ _ _ = $H; obtain ⟨$e:ident, $h:ident⟩ := gen_e hE $n; clear hE))
local macro_rules | `(tactic| k_places) => `(tactic| first
  | assumption
  | exact lst_of (by assumption)
  | exact tup_of (by assumption)
  | (refine getS (by assumption) ?_; k_places)
  | (refine Same.seq (by assumption) ?_; k_places)
  | (refine tupS (by assumption) ?_; k_places)
  | (refine lst_of ?_; k_places)
  | (refine tup_of ?_; k_places))
local macro_rules | `(tactic| k_subL) => `(tactic| first
  | k_places
  | solve_by_elim (maxDepth := 10) [getS, lst_of, tup_of, Same.seq, tupS])
local macro_rules | `(tactic| k_offL) => `(tactic| first
  | (show (0 : Int) < _; first | omega | decide)
  | (refine ⟨?_, ?_⟩ <;> first | omega | decide)
  | exact .inr ⟨by decide, by decide⟩
  | exact .inl ⟨by decide, by decide⟩
  | exact .inl ⟨by omega, by omega⟩
  | omega)
local macro_rules | `(tactic| k_clsL) => `(tactic| exact Nat.le_of_ble_eq_true rfl)
local macro_rules | `(tactic| k_upd) => `(tactic| simp only [L2.start, List.map_cons, List.map_nil, List.length_cons, List.length_nil, List.replicate_succ, List.replicate_zero, List.cons_append, List.nil_append, List.set_cons_zero, List.set_cons_succ])
section
variable {P : Program} {w : World} {K : PySem.W.Frag} {mg : Str → Option Value} {base : Heap}
/-! ### the law's own next generation -/
def nbq (qs : List Pr) (r c : Int) : Nat :=
  qs.count (r - 1, c - 1) + qs.count (r - 1, c) + qs.count (r - 1, c + 1) + qs.count (r, c - 1) + qs.count (r, c + 1) + qs.count (r + 1, c - 1) + qs.count (r + 1, c) + qs.count (r + 1, c + 1)
def nbr (y x : Pr) : Prop := y.1 - 1 ≤ x.1 ∧ x.1 ≤ y.1 + 1 ∧ y.2 - 1 ≤ x.2 ∧ x.2 ≤ y.2 + 1 ∧ x ≠ y
theorem nbq_nb {qs : List Pr} (nd : qs.Nodup) (r c : Int) : nbq qs r c = nb (memL qs) r c := by
  have e : ∀ p : Pr, qs.count p = (memL qs p.1 p.2).toNat := fun p => by
    unfold memL
    rw [List.Nodup.count nd]
    by_cases m : p ∈ qs
    · rw [if_pos m, decide_eq_true m]
      rfl
    · rw [if_neg m, decide_eq_false m]
      rfl
  unfold nbq nb
  rw [e, e, e, e, e, e, e, e]
theorem nbq_snoc (qs : List Pr) (y : Pr) (r c : Int) [Decidable (nbr y (r, c))] : nbq (qs ++ [y]) r c = nbq qs r c + if nbr y (r, c) then 1 else 0 := by
  have one : ∀ p : Pr, (qs ++ [y]).count p = qs.count p + if y = p then 1 else 0 := fun p => by
    rw [List.count_append, List.count_singleton]
    by_cases e : y = p
    · subst e
      simp
    · simp [e]
  obtain ⟨a, b⟩ := y
  unfold nbq
  rw [one, one, one, one, one, one, one, one]
  simp only [Prod.mk.injEq]
  by_cases h : nbr (a, b) (r, c)
  · rw [if_pos h]
    obtain ⟨h1, h2, h3, h4, h5⟩ := h
    have h5 : ¬ (r = a ∧ c = b) := fun z => h5 (Prod.ext z.1 z.2)
    dsimp only at h1 h2 h3 h4
    have c1 : a = r - 1 ∨ a = r ∨ a = r + 1 := by omega
    have c2 : b = c - 1 ∨ b = c ∨ b = c + 1 := by omega
    rcases c1 with e1 | e1 | e1 <;> rcases c2 with e2 | e2 | e2 <;> first
      | (exfalso; omega)
      | ((repeat (first | rw [if_neg (by omega)] | rw [if_pos (by omega)])); omega)
  · rw [if_neg h]
    have off : ∀ i j : Int, r - 1 ≤ i → i ≤ r + 1 → c - 1 ≤ j → j ≤ c + 1 → ¬ (i = r ∧ j = c) → ¬ (a = i ∧ b = j) := fun i j h1 h2 h3 h4 h5 h6 => h ⟨by dsimp only; omega, by dsimp only; omega, by dsimp only; omega, by dsimp only; omega, fun z => h5 (by
      have z1 : r = a := congrArg Prod.fst z
      have z2 : c = b := congrArg Prod.snd z
      omega)⟩
    rw [if_neg (off _ _ (by omega) (by omega) (by omega) (by omega) (by omega)), if_neg (off _ _ (by omega) (by omega) (by omega) (by omega) (by omega)), if_neg (off _ _ (by omega) (by omega) (by omega) (by omega) (by omega)), if_neg (off _ _ (by omega) (by omega) (by omega) (by omega) (by omega)),
      if_neg (off _ _ (by omega) (by omega) (by omega) (by omega) (by omega)), if_neg (off _ _ (by omega) (by omega) (by omega) (by omega) (by omega)), if_neg (off _ _ (by omega) (by omega) (by omega) (by omega) (by omega)), if_neg (off _ _ (by omega) (by omega) (by omega) (by omega) (by omega))]
    omega
end
end My
namespace My
open PySem PySem.Spec PyProof.Rows L2 Vx
open TL
local macro_rules | `(tactic| k_invariant "new" ($n, $H:ident, $e:ident, $h:ident)) => `(tactic| (generalize hE : upd _ _ _ = $H; obtain ⟨$e:ident, $h:ident⟩ := gen_e hE $n; clear hE))
local macro_rules | `(tactic| k_places) => `(tactic| first
  | assumption
  | exact lst_of (by assumption)
  | exact tup_of (by assumption)
  | (refine getS (by assumption) ?_; k_places)
  | (refine Same.seq (by assumption) ?_; k_places)
  | (refine tupS (by assumption) ?_; k_places)
  | (refine lst_of ?_; k_places)
  | (refine tup_of ?_; k_places))
local macro_rules | `(tactic| k_subL) => `(tactic| first
  | k_places
  | solve_by_elim (maxDepth := 10) [getS, lst_of, tup_of, Same.seq, tupS])
local macro_rules | `(tactic| k_offL) => `(tactic| first
  | (show (0 : Int) < _; first | omega | decide)
  | (refine ⟨?_, ?_⟩ <;> first | omega | decide)
  | exact .inr ⟨by decide, by decide⟩
  | exact .inl ⟨by decide, by decide⟩
  | exact .inl ⟨by omega, by omega⟩
  | omega)
local macro_rules | `(tactic| k_clsL) => `(tactic| exact Nat.le_of_ble_eq_true rfl)
local macro_rules | `(tactic| k_upd) => `(tactic| simp only [L2.start, List.map_cons, List.map_nil, List.length_cons, List.length_nil, List.replicate_succ, List.replicate_zero, List.cons_append, List.nil_append, List.set_cons_zero, List.set_cons_succ])
section
variable {P : Program} {w : World} {K : PySem.W.Frag} {mg : Str → Option Value} {base : Heap}
theorem nbq_zero {qs : List Pr} {x : Pr} (h : ∀ y ∈ qs, ¬ nbr y x) : nbq qs x.1 x.2 = 0 := by
  have z : ∀ p : Pr, nbr p x → qs.count p = 0 := fun p hp => List.count_eq_zero.mpr fun m => h p m hp
  obtain ⟨r, c⟩ := x
  have ne : ∀ i j : Int, ¬ (i = r ∧ j = c) → ((r, c) : Pr) ≠ (i, j) := fun i j h e => h ⟨(congrArg Prod.fst e).symm, (congrArg Prod.snd e).symm⟩
  have q : ∀ i j : Int, r - 1 ≤ i → i ≤ r + 1 → c - 1 ≤ j → j ≤ c + 1 → ¬ (i = r ∧ j = c) → qs.count ((i, j) : Pr) = 0 := fun i j a1 a2 a3 a4 a5 =>
    z (i, j) ⟨by dsimp only; omega, by dsimp only; omega, by dsimp only; omega, by dsimp only; omega, ne i j a5⟩
  unfold nbq
  dsimp only
  rw [q _ _ (by omega) (by omega) (by omega) (by omega) (by omega), q _ _ (by omega) (by omega) (by omega) (by omega) (by omega), q _ _ (by omega) (by omega) (by omega) (by omega) (by omega), q _ _ (by omega) (by omega) (by omega) (by omega) (by omega),
    q _ _ (by omega) (by omega) (by omega) (by omega) (by omega), q _ _ (by omega) (by omega) (by omega) (by omega) (by omega), q _ _ (by omega) (by omega) (by omega) (by omega) (by omega), q _ _ (by omega) (by omega) (by omega) (by omega) (by omega)]
theorem cnt_get {ks : List Pr} {g : Pr → Nat} {x : Pr} (h : x ∉ ks → g x = 0) : (if x ∈ ks then some (V.int ((g x : Nat) : Int)) else none).getD (.int 0) = .int ((g x : Nat) : Int) := by
  by_cases m : x ∈ ks
  · rw [if_pos m]
    rfl
  · rw [if_neg m, h m]
    rfl
theorem three {r : Int} {a : Nat} {v : V} (h : [V.int (r - 1), .int r, .int (r + 1)][a]? = some v) : v = .int (r - 1 + (a : Int)) ∧ a < 3 := by
  match a, h with
  | 0, h => exact ⟨(Option.some.inj h).symm.trans (by rw [show r - 1 + ((0 : Nat) : Int) = r - 1 by omega]), by decide⟩
  | 1, h => exact ⟨(Option.some.inj h).symm.trans (by rw [show r - 1 + ((1 : Nat) : Int) = r by omega]), by decide⟩
  | 2, h => exact ⟨(Option.some.inj h).symm.trans (by rw [show r - 1 + ((2 : Nat) : Int) = r + 1 by omega]), by decide⟩
  | _ + 3, h => cases h
theorem neT {i j : Int} (h : (!decide (V.int i = V.int j)) = true) : ¬ i = j := fun e => by
  rw [e] at h
  simp at h
theorem neF {i j : Int} (h : ¬ (!decide (V.int i = V.int j)) = true) : i = j := by
  simp at h
  exact h
def doneB (a b : Nat) (y x : Pr) : Prop := nbr y x ∧ (x.1 < y.1 - 1 + (a : Int) ∨ (x.1 = y.1 - 1 + (a : Int) ∧ x.2 < y.2 - 1 + (b : Int)))
instance (y x : Pr) : Decidable (nbr y x) := inferInstanceAs (Decidable (_ ∧ _))
instance (a b : Nat) (y x : Pr) : Decidable (doneB a b y x) := inferInstanceAs (Decidable (_ ∧ _))
def sp_law_next : Sp := fun vs H Q _ => ∃ (l lb ls : Addr) (ps : List Pr) (bs ss : List Int), vs = [.ref l, .ref lb, .ref ls] ∧ Cells H l ps ∧ H lb = some (.lst (bs.map V.int)) ∧ H ls = some (.lst (ss.map V.int)) ∧ (∀ b ∈ bs, 1 ≤ b ∧ b ≤ 8) ∧ ps.length < 100000 ∧
  ∀ (H' : Hp) (p : Addr) (qs : List Pr), H p = none → Same H H' → Cells H' p qs → qs.Pairwise ltP → (∀ x, x ∈ qs ↔ stepL bs ss (memL ps) x.1 x.2 = true) → Q (.ref p) H'
theorem ok_law_next (T : Txt K mg) : FnOk P w K mg base CX0 1 T.f_law_next T.d_law_next ["cells", "births", "survival"] sp_law_next := by
  refine T.F_law_next.ok sc_law_next (fun vs H Q E h => ?_) (fun cdv A outer s H vs Q E hr h => ?_)
  · obtain ⟨_, _, _, _, _, _, rfl, _⟩ := h
    rfl
  · obtain ⟨l, lb, ls, ps, bs, ss, rfl, hC, hB, hS, hb, few, q⟩ := h
    have hu : (A.deeper (envOfC (Str.ofString "_law_next") (defScope s_law_next) s.heap.objs.size T.f_law_next cdv)).units + 1 < cLine := by
      have := hr.units
      omega
    refine ⟨_, (pss_cons (ps_set (i := 3) sc_law_next.nd rfl (.inl rfl) pe_dnewT)
      (pss_cons (ps_set (i := 4) sc_law_next.nd rfl (.inl rfl) pe_dnewT)
      (pss_cons (ps_for PassesOwn.never rfl (pi_list (pv 0)) (pg_tupK (K := K) (n := 2) rfl rfl (pgs_cons (pg_name (i := 5) sc_law_next.nd rfl (.inl rfl)) (pgs_cons (pg_name (i := 6) sc_law_next.nd rfl (.inl rfl)) pgs_nil)))
      (pss_one (ps_dput hu (pv 4) (pe_tup (pa_cons (pv 5) (pa_cons (pv 6) pa_nil))) pe_bl rfl)))
      (pss_cons (ps_lock (ps_for PassesOwn.never rfl (pi_keys (pv 4)) (pg_tupK (K := K) (n := 2) rfl rfl (pgs_cons (pg_name (i := 5) sc_law_next.nd rfl (.inl rfl)) (pgs_cons (pg_name (i := 6) sc_law_next.nd rfl (.inl rfl)) pgs_nil)))
      (pss_cons (ps_dput hu (pv 3) (pe_tup (pa_cons (pv 5) (pa_cons (pv 6) pa_nil))) (pe_dget2 hu (pv 3) (pe_tup (pa_cons (pv 5) (pa_cons (pv 6) pa_nil))) pe_int ⟨rfl, rfl, rfl, rfl⟩) rfl)
      (pss_one (ps_for PassesOwn.never rfl (pi_list (pe_lst (pa_cons (pe_op op_sub (pv 5) pe_int) (pa_cons (pv 5) (pa_cons (pe_op op_add (pv 5) pe_int) pa_nil))))) (pg_name (i := 7) sc_law_next.nd rfl (.inl rfl))
      (pss_one (ps_for PassesOwn.never rfl (pi_list (pe_lst (pa_cons (pe_op op_sub (pv 6) pe_int) (pa_cons (pv 6) (pa_cons (pe_op op_add (pv 6) pe_int) pa_nil))))) (pg_name (i := 8) sc_law_next.nd rfl (.inl rfl))
      (pss_one (ps_if (PW.pt (pw_or (pt_cmpR op_ne (pv 7) (pv 5) (nomark _)) (pw_or1 (pt_cmpR op_ne (pv 8) (pv 6) (nomark _)))))
      (pss_one (ps_dput hu (pv 3) (pe_tup (pa_cons (pv 7) (pa_cons (pv 8) pa_nil))) (pe_op op_add (pe_dget2 hu (pv 3) (pe_tup (pa_cons (pv 7) (pa_cons (pv 8) pa_nil))) pe_int ⟨rfl, rfl, rfl, rfl⟩) pe_int) rfl))
      pss_nil)))))))))
      (pss_cons (ps_set (i := 9) sc_law_next.nd rfl (.inl rfl) (pe_lst pa_nil))
      (pss_cons (ps_lock (ps_for PassesOwn.never rfl (pi_keys (pv 3)) (pg_name (i := 10) sc_law_next.nd rfl (.inl rfl))
      (pss_one (ps_if (PW.pt (pw_or (PW.pt (pw_and (pt_cmp (pc_din hu (pv 10) (pv 4))) (pw_and1 (pt_cmpR op_in_seq (pe_dget hu (pv 3) (pv 10) (fun _ _ => rfl)) (pv 2) rfl)))) (pw_or1 (PW.pt (pw_and (pt_cmp (pc_dnotin hu (pv 10) (pv 4))) (pw_and1 (pt_cmpR op_in_seq (pe_dget hu (pv 3) (pv 10) (fun _ _ => rfl)) (pv 1) rfl)))))))
      (pss_one (ps_expr (pe_bm PySem.F.plainAttrs_list PySem.F.slot_list_append PySem.F.type_list_append mt_append (pv 9) (pa_cons (pv 10) pa_nil))))
      pss_nil))))
      (pss_one (ps_ret (pe_callB cr_sortedC (by rfl) T.z_sorted (by decide +kernel) (pa_cons (pv 9) pa_nil)))))))))), ?_⟩
    k_upd
    refine fun cd ncd => ?_
    k_invariant "new" (ncd, H1, e1, g1)
    k_upd
    refine fun ad nad => ?_
    k_invariant "new" (nad, H2, e2, g2)
    k_upd
    have ncad : cd ≠ ad := ne_of_none g1 nad
    have g1 := e2 _ _ g1
    obtain ⟨ts, hl, ht, ets⟩ := id hC
    have lts : ts.length = ps.length := by rw [← ets, List.length_map]
    have s02 := e1.trans e2
    refine ⟨_, rfl, l, rfl, ⟨_, lst_of (s02 _ _ hl)⟩, ?_⟩
    refine for_list (K := K) (a := l) (xs := ts.map fun t => V.ref t.1) (fun i σ H' => Same H1 H' ∧ (∃ x5 x6 : Option V, σ = [some (.ref l), some (.ref lb), some (.ref ls), some (.ref cd), some (.ref ad), x5, x6, none, none, none, none]) ∧
      ∃ qs, Dct H' ad qs (fun _ => .bl true) ∧ (∀ x, x ∈ qs ↔ x ∈ ps.take i) ∧ qs.length ≤ i)
      ⟨e2, ⟨_, _, rfl⟩, [], Dct.new _ g2, fun x => by simp, Nat.le_refl _⟩ (fun i σ H' _ p => lst_of (p.1 _ _ (e1 _ _ hl))) ?_ ?_
    · rintro i x σ H' hi ⟨sm, ⟨x5, x6, rfl⟩, qs, hD, mem, lq⟩
      obtain ⟨t, mt, rfl, hx⟩ := item_cells (H := H') hi rfl
      rw [ets] at hx
      have li : i < ps.length := (List.getElem?_eq_some_iff.mp hx).1
      have ht' := sm _ _ (e1 _ _ (ht t mt))
      refine ⟨t.1, _, rfl, tup_of ht', rfl, _, _, rfl, _, _, rfl, rfl, ?_⟩
      k_upd
      refine ⟨_, rfl, _, rfl, _, rfl, (by k_clsL), fun p4 n4 => ?_⟩
      k_invariant "new" (n4, H4, e4, g4)
      obtain ⟨H5, dp, pa⟩ := (hD.up e4).dput (x := t.2) (by rw [sizeLine_eq]; omega) g4 (.bl true)
      refine ⟨ad, H5, rfl, dp, pa.mut (sm.trans e4) nad, ⟨_, _, rfl⟩, addK qs t.2, pa.1.congr fun y _ => ?_, fun x => ?_, Nat.le_trans addK_len (Nat.add_le_add_right lq 1)⟩
      · unfold setG
        by_cases e : y = t.2
        · rw [if_pos e]
        · rw [if_neg e]
      · rw [mem_addK, mem, take_next hx, List.mem_append, List.mem_singleton]
    rintro σ H3 ⟨s13, ⟨x5, x6, rfl⟩, qs, hD, memq, lq⟩
    rw [List.length_map] at lq
    rw [List.length_map, List.take_of_length_le (by omega)] at memq
    have ndq : qs.Nodup := hD.choose_spec.2.2
    obtain ⟨kvs, gad, hm⟩ := hD
    have g1 := s13 _ _ (show H1 cd = _ from by assumption)
    refine ⟨ad, _, gad, trivial, fun od => ⟨_, rfl, ad, od, rfl, .inr ⟨kvs, upd_same, ?_⟩⟩⟩
    have h0 : Same H (upd H3 ad (.frz od (.dT kvs))) := mutS (e1.trans s13) (backS e1 nad)
    have h1 : upd H3 ad (.frz od (.dT kvs)) ad = some (.frz od (.dT kvs)) := upd_same
    have h2 : upd H3 ad (.frz od (.dT kvs)) cd = some (.dT []) := by rw [upd_ne ncad]; exact g1
    generalize upd H3 ad (.frz od (.dT kvs)) = Hf at h0 h1 h2 ⊢
    refine for_it walk_keysT (fun i σ H' => Same H H' ∧ H' ad = some (.frz od (.dT kvs)) ∧ (∃ x5 x6 x7 x8 : Option V, σ = [some (.ref l), some (.ref lb), some (.ref ls), some (.ref cd), some (.ref ad), x5, x6, x7, x8, none, none]) ∧
        ∃ ks, Dct H' cd ks (fun x => .int ((nbq (qs.take i) x.1 x.2 : Nat) : Int)) ∧ (∀ x, x ∈ ks ↔ ∃ y ∈ qs.take i, x = y ∨ nbr y x) ∧ ks.length ≤ 10 * i)
      ⟨h0, h1, ⟨_, _, _, _, rfl⟩, [], Dct.new _ h2, fun x => by simp, Nat.le_refl _⟩ (fun i σ H' _ p => p.2.1) ?_ ?_
    · rintro i x σ H2 H4 hi ⟨sm, had, ⟨x5, x6, x7, x8, rfl⟩, ks, hK, mk, lk⟩ ⟨rfl, k, v, q0, e, rfl, hq0⟩
      obtain ⟨y, hy, rfl, rfl⟩ := hm.at e
      have li : i < qs.length := (List.getElem?_eq_some_iff.mp hy).1
      obtain ⟨r, c⟩ := y
      have hq0 : _ = some (HO.tup [.int r, .int c]) := hq0
      refine ⟨q0, _, rfl, tup_of hq0, rfl, _, _, rfl, _, _, rfl, rfl, ?_⟩
      k_upd
      refine ⟨_, rfl, cd, rfl, hK.isD, _, rfl, _, rfl, (by k_clsL), fun p4 n4 => ?_⟩
      k_invariant "new" (n4, H5, e5, g5)
      refine ⟨_, (hK.up e5).dget (x := (r, c)) g5, ?_⟩
      rw [cnt_get (x := (r, c)) (g := fun x => nbq (qs.take i) x.1 x.2) fun nm => nbq_zero fun z mz nz => nm ((mk _).mpr ⟨z, mz, .inr nz⟩)]
      refine ⟨_, rfl, _, rfl, _, rfl, (by k_clsL), fun p6 n6 => ?_⟩
      k_invariant "new" (n6, H6, e6, g6)
      obtain ⟨H7, dp7, pa7⟩ := (hK.up (e5.trans e6)).dput (x := (r, c)) (by rw [sizeLine_eq]; omega) g6 (.int ((nbq (qs.take i) r c : Nat) : Int))
      have s7 := pa7.mut (sm.trans (e5.trans e6)) ncd
      refine ⟨cd, H7, rfl, dp7, ?_⟩
      have k7 : Dct H7 cd (addK ks (r, c)) (fun x => .int ((nbq (qs.take i) x.1 x.2 + (if doneB 0 0 (r, c) x then 1 else 0) : Nat) : Int)) := pa7.1.congr fun x m => by
        have n0 : ¬ doneB 0 0 (r, c) x := fun z => by
          obtain ⟨⟨a1, a2, a3, a4, a5⟩, b1⟩ := z
          dsimp only at a1 a2 a3 a4 b1
          omega
        rw [if_neg n0]
        unfold setG
        by_cases e : x = (r, c)
        · rw [if_pos e, e]
          rfl
        · rw [if_neg e]
          rfl
      have m7 : ∀ x, x ∈ addK ks (r, c) ↔ (∃ y ∈ qs.take i, x = y ∨ nbr y x) ∨ x = (r, c) ∨ doneB 0 0 (r, c) x := fun x => by
        rw [mem_addK, mk]
        refine ⟨fun z => z.elim .inl fun z => .inr (.inl z), fun z => z.elim .inl fun z => z.elim .inr fun z => ?_⟩
        obtain ⟨⟨a1, a2, a3, a4, a5⟩, b1⟩ := z
        dsimp only at a1 a2 a3 a4 b1
        omega
      have ad7 : H7 ad = some (.frz od (.dT kvs)) := by
        rw [pa7.2 ad fun e => ncad e.symm]
        exact e6 _ _ (e5 _ _ had)
      k_upd
      refine ⟨_, rfl, _, _, rfl, rfl, _, rfl, _, rfl, _, _, rfl, rfl, (by k_clsL), fun li1 nli1 => ?_⟩
      have ncl : li1 ≠ cd := k7.ne nli1
      k_invariant "new" (nli1, H8, e8, g8)
      have ad8 := e8 _ _ ad7
      have k8 := k7.up e8
      have l8 : (addK ks (r, c)).length ≤ 10 * i + 1 := Nat.le_trans addK_len (by omega)
      refine ⟨li1, rfl, ⟨_, lst_of g8⟩, ?_⟩
      refine for_list (K := K) (a := li1) (xs := [V.int (r - 1), .int r, .int (r + 1)]) (fun a σ H' => Same H H' ∧ H' ad = some (.frz od (.dT kvs)) ∧ H' li1 = some (.lst [.int (r - 1), .int r, .int (r + 1)]) ∧
          (∃ x7 x8 : Option V, σ = [some (.ref l), some (.ref lb), some (.ref ls), some (.ref cd), some (.ref ad), some (.int r), some (.int c), x7, x8, none, none]) ∧
          ∃ ks', Dct H' cd ks' (fun x => .int ((nbq (qs.take i) x.1 x.2 + (if doneB a 0 (r, c) x then 1 else 0) : Nat) : Int)) ∧ (∀ x, x ∈ ks' ↔ (∃ y ∈ qs.take i, x = y ∨ nbr y x) ∨ x = (r, c) ∨ doneB a 0 (r, c) x) ∧ ks'.length ≤ 10 * i + 1 + 3 * a)
        ⟨s7.trans e8, ad8, g8, ⟨_, _, rfl⟩, _, k8, m7, l8⟩ (fun a σ H' _ p => lst_of p.2.2.1) ?_ ?_
      · rintro a v σ H9 ha ⟨s9, ad9, g9, ⟨x7, x8, rfl⟩, ks9, k9, m9, l9⟩
        obtain ⟨rfl, a3⟩ := three ha
        k_upd
        refine ⟨_, rfl, _, _, rfl, rfl, _, rfl, _, rfl, _, _, rfl, rfl, (by k_clsL), fun li2 nli2 => ?_⟩
        k_invariant "new" (nli2, H10, e10, g10)
        have nl2 : li2 ≠ cd := k9.ne nli2
        refine ⟨li2, rfl, ⟨_, lst_of g10⟩, ?_⟩
        refine for_list (K := K) (a := li2) (xs := [V.int (c - 1), .int c, .int (c + 1)]) (fun b σ H' => Same H H' ∧ H' ad = some (.frz od (.dT kvs)) ∧ H' li1 = some (.lst [.int (r - 1), .int r, .int (r + 1)]) ∧ H' li2 = some (.lst [.int (c - 1), .int c, .int (c + 1)]) ∧
            (∃ x8 : Option V, σ = [some (.ref l), some (.ref lb), some (.ref ls), some (.ref cd), some (.ref ad), some (.int r), some (.int c), some (.int (r - 1 + (a : Int))), x8, none, none]) ∧
            ∃ ks', Dct H' cd ks' (fun x => .int ((nbq (qs.take i) x.1 x.2 + (if doneB a b (r, c) x then 1 else 0) : Nat) : Int)) ∧ (∀ x, x ∈ ks' ↔ (∃ y ∈ qs.take i, x = y ∨ nbr y x) ∨ x = (r, c) ∨ doneB a b (r, c) x) ∧ ks'.length ≤ 10 * i + 1 + 3 * a + b)
          ⟨s9.trans e10, e10 _ _ ad9, e10 _ _ g9, g10, ⟨_, rfl⟩, _, k9.up e10, m9, l9⟩ (fun b σ H' _ p => lst_of p.2.2.2.1) ?_ ?_
        · rintro b v σ H11 hb' ⟨s11, ad11, g11, g12, ⟨x8, rfl⟩, ks11, k11, m11, l11⟩
          obtain ⟨rfl, b3⟩ := three hb'
          k_upd
          refine ⟨_, rfl, _, rfl, rfl, _, rfl, ite2 (fun c1 => iteT ?_) (fun c1 => ⟨_, rfl, _, rfl, rfl, _, rfl, ite2 (fun c2 => ?_) (fun c2 => ?_)⟩)⟩
          rotate_left 2
          · have z1 := neF c1
            have z2 := neF c2
            have same : ∀ x, doneB a (b + 1) (r, c) x ↔ doneB a b (r, c) x := fun x => by
              unfold doneB nbr
              dsimp only
              refine ⟨fun ⟨h, h2⟩ => ⟨h, ?_⟩, fun ⟨h, h2⟩ => ⟨h, ?_⟩⟩
              · rcases h2 with h2 | ⟨h2, h3⟩
                · exact .inl h2
                · have n3 : ¬ x.2 = c - 1 + (b : Int) := fun e => h.2.2.2.2 (Prod.ext (by dsimp only; omega) (by dsimp only; omega))
                  exact .inr ⟨h2, by omega⟩
              · rcases h2 with h2 | ⟨h2, h3⟩
                · exact .inl h2
                · exact .inr ⟨h2, by omega⟩
            refine ⟨s11, ad11, g11, g12, ⟨_, rfl⟩, ks11, k11.congr fun x _ => ?_, fun x => ?_, by omega⟩
            · simp only [same]
            · rw [m11, same]
          all_goals
            have hne : ¬ (r - 1 + (a : Int) = r ∧ c - 1 + (b : Int) = c) := by
              first
                | exact fun z => neT c1 z.1
                | exact fun z => neT c2 z.2
            have nbx : nbr (r, c) (r - 1 + (a : Int), c - 1 + (b : Int)) := ⟨by dsimp only; omega, by dsimp only; omega, by dsimp only; omega, by dsimp only; omega, fun e => hne ⟨congrArg Prod.fst e, congrArg Prod.snd e⟩⟩
            have nd0 : ¬ doneB a b (r, c) (r - 1 + (a : Int), c - 1 + (b : Int)) := fun z => by
              obtain ⟨_, z⟩ := z
              dsimp only at z
              omega
            have step : ∀ x, doneB a (b + 1) (r, c) x ↔ doneB a b (r, c) x ∨ x = (r - 1 + (a : Int), c - 1 + (b : Int)) := fun x => by
              constructor
              · rintro ⟨h, h2⟩
                rcases h2 with h2 | ⟨h2, h3⟩
                · exact .inl ⟨h, .inl h2⟩
                · by_cases e : x.2 = c - 1 + (b : Int)
                  · exact .inr (Prod.ext h2 e)
                  · exact .inl ⟨h, .inr ⟨h2, by dsimp only at h3 ⊢; omega⟩⟩
              · rintro (⟨h, h2⟩ | e)
                · refine ⟨h, ?_⟩
                  rcases h2 with h2 | ⟨h2, h3⟩
                  · exact .inl h2
                  · exact .inr ⟨h2, by omega⟩
                · rw [e]
                  exact ⟨nbx, .inr ⟨rfl, by dsimp only; omega⟩⟩
            refine ⟨_, rfl, cd, rfl, k11.isD, _, rfl, _, rfl, (by k_clsL), fun p12 n12 => ?_⟩
            k_invariant "new" (n12, H12, e12, g13)
            refine ⟨_, (k11.up e12).dget (x := (r - 1 + (a : Int), c - 1 + (b : Int))) g13, ?_⟩
            rw [cnt_get (x := (r - 1 + (a : Int), c - 1 + (b : Int))) (g := fun x => nbq (qs.take i) x.1 x.2 + (if doneB a b (r, c) x then 1 else 0)) fun nm => ?_]
            rotate_left
            · dsimp only
              rw [if_neg nd0, nbq_zero (x := (r - 1 + (a : Int), c - 1 + (b : Int))) fun z mz nz => nm ((m11 _).mpr (.inl ⟨z, mz, .inr nz⟩))]
            dsimp only
            rw [if_neg nd0, Nat.add_zero]
            refine ⟨_, _, rfl, rfl, _, rfl, _, rfl, _, rfl, (by k_clsL), fun p14 n14 => ?_⟩
            k_invariant "new" (n14, H14, e14, g14)
            have fewk : ks11.length < sizeLine := by rw [sizeLine_eq]; omega
            obtain ⟨H15, dp15, pa15⟩ := (k11.up (e12.trans e14)).dput (x := (r - 1 + (a : Int), c - 1 + (b : Int))) fewk g14 (.int ((nbq (qs.take i) (r - 1 + (a : Int)) (c - 1 + (b : Int)) : Nat) + 1 : Int))
            have off : ∀ (p : Addr) (o : HO), H11 p = some o → p ≠ cd → H15 p = some o := fun p o e n => by
              rw [pa15.2 p n]
              exact e14 _ _ (e12 _ _ e)
            refine ⟨cd, H15, rfl, dp15, pa15.mut (s11.trans (e12.trans e14)) ncd, off _ _ ad11 (fun e => ncad e.symm), off _ _ g11 ncl, off _ _ g12 nl2, ⟨_, rfl⟩, addK ks11 (r - 1 + (a : Int), c - 1 + (b : Int)), pa15.1.congr fun x _ => ?_, fun x => ?_, ?_⟩
            · unfold setG
              by_cases e : x = (r - 1 + (a : Int), c - 1 + (b : Int))
              · rw [if_pos e, if_pos ((step x).mpr (.inr e)), e]
                rfl
              · rw [if_neg e]
                have : doneB a (b + 1) (r, c) x ↔ doneB a b (r, c) x := (step x).trans ⟨fun z => z.elim id fun z => absurd z e, .inl⟩
                simp only [this]
            · rw [mem_addK, m11, step]
              constructor
              · rintro ((h | h | h) | h)
                · exact .inl h
                · exact .inr (.inl h)
                · exact .inr (.inr (.inl h))
                · exact .inr (.inr (.inr h))
              · rintro (h | h | h | h)
                · exact .inl (.inl h)
                · exact .inl (.inr (.inl h))
                · exact .inl (.inr (.inr h))
                · exact .inr h
            · have := addK_len (ps := ks11) (x := (r - 1 + (a : Int), c - 1 + (b : Int)))
              omega
        · rintro σ H11 ⟨s11, ad11, g11, g12, ⟨x8, rfl⟩, ks11, k11, m11, l11⟩
          have same : ∀ x, doneB a 3 (r, c) x ↔ doneB (a + 1) 0 (r, c) x := fun x => by
            unfold doneB nbr
            dsimp only
            refine ⟨fun ⟨h, h2⟩ => ⟨h, ?_⟩, fun ⟨h, h2⟩ => ⟨h, ?_⟩⟩
            · omega
            · omega
          have k11 : Dct H11 cd ks11 (fun x => .int ((nbq (qs.take i) x.1 x.2 + (if doneB a 3 (r, c) x then 1 else 0) : Nat) : Int)) := k11
          have m11 : ∀ x, x ∈ ks11 ↔ (∃ y ∈ qs.take i, x = y ∨ nbr y x) ∨ x = (r, c) ∨ doneB a 3 (r, c) x := m11
          have l11 : ks11.length ≤ 10 * i + 1 + 3 * a + 3 := l11
          refine ⟨s11, ad11, g11, ⟨_, _, rfl⟩, ks11, k11.congr fun x _ => ?_, fun x => ?_, by omega⟩
          · simp only [same]
          · rw [m11, same]
      · rintro σ H9 ⟨s9, ad9, g9, ⟨x7, x8, rfl⟩, ks9, k9, m9, l9⟩
        have all : ∀ x, doneB 3 0 (r, c) x ↔ nbr (r, c) x := fun x => by
          unfold doneB nbr
          dsimp only
          refine ⟨fun h => h.1, fun h => ⟨h, .inl (by omega)⟩⟩
        have k9 : Dct H9 cd ks9 (fun x => .int ((nbq (qs.take i) x.1 x.2 + (if doneB 3 0 (r, c) x then 1 else 0) : Nat) : Int)) := k9
        have m9 : ∀ x, x ∈ ks9 ↔ (∃ y ∈ qs.take i, x = y ∨ nbr y x) ∨ x = (r, c) ∨ doneB 3 0 (r, c) x := m9
        have l9 : ks9.length ≤ 10 * i + 1 + 3 * 3 := l9
        refine ⟨s9, ad9, ⟨_, _, _, _, rfl⟩, ks9, k9.congr fun x _ => ?_, fun x => ?_, by omega⟩
        · rw [take_next hy, nbq_snoc]
          simp only [all]
        · rw [m9, all, take_next hy]
          constructor
          · rintro (⟨y, my, h⟩ | h | h)
            · exact ⟨y, List.mem_append.mpr (.inl my), h⟩
            · exact ⟨(r, c), List.mem_append.mpr (.inr (List.mem_singleton.mpr rfl)), .inl h⟩
            · exact ⟨(r, c), List.mem_append.mpr (.inr (List.mem_singleton.mpr rfl)), .inr h⟩
          · rintro ⟨y, my, h⟩
            rcases List.mem_append.mp my with my | my
            · exact .inl ⟨y, my, h⟩
            · rw [List.mem_singleton.mp my] at h
              exact .inr h
    · rintro σ H4 ⟨sm, had, ⟨x5, x6, x7, x8, rfl⟩, ks, hK, mk, lk⟩
      rw [hm.len] at lk
      rw [hm.len, List.take_of_length_le (Nat.le_refl _)] at hK mk
      have ndk : ks.Nodup := hK.choose_spec.2.2
      refine ⟨had, ?_⟩
      have sA : Same H (upd H4 ad (.dT kvs)) := mutS sm (backS e1 nad)
      have gA : upd H4 ad (.dT kvs) ad = some (.dT kvs) := upd_same
      have kA := hK.off (o := .dT kvs) ncad
      generalize upd H4 ad (.dT kvs) = H5 at sA gA kA ⊢
      k_upd
      refine ⟨by k_clsL, fun fl nfl => ?_⟩
      k_invariant "new" (nfl, H6, e6, g6)
      k_upd
      obtain ⟨kvc, gcd, hmc⟩ := kA.up e6
      have nfc : fl ≠ cd := fun e => by rw [e, gcd] at g6; cases g6
      have nfa : fl ≠ ad := fun e => by rw [e, e6 _ _ gA] at g6; cases g6
      refine ⟨cd, _, gcd, trivial, fun od2 => ⟨_, rfl, cd, od2, rfl, .inr ⟨kvc, upd_same, ?_⟩⟩⟩
      have b0 : Same H (upd H6 cd (.frz od2 (.dT kvc))) := mutS (sA.trans e6) ncd
      have b1 : upd H6 cd (.frz od2 (.dT kvc)) cd = some (.frz od2 (.dT kvc)) := upd_same
      have b2 : upd H6 cd (.frz od2 (.dT kvc)) ad = some (.dT kvs) := by rw [upd_ne fun e => ncad e.symm]; exact e6 _ _ gA
      have b3 : upd H6 cd (.frz od2 (.dT kvc)) fl = some (.lst []) := by rw [upd_ne nfc]; exact g6
      generalize upd H6 cd (.frz od2 (.dT kvc)) = Hg at b0 b1 b2 b3 ⊢
      have memE : ∀ x, memL ps x.1 x.2 = decide (x ∈ qs) := fun x => by
        unfold memL
        rw [Bool.eq_iff_iff, decide_eq_true_iff, decide_eq_true_iff, memq]
      have nbE : ∀ x : Pr, (nbq qs x.1 x.2 : Int) = (nb (memL ps) x.1 x.2 : Int) := fun x => by
        rw [nbq_nb ndq]
        have : memL qs = memL ps := funext fun r => funext fun c => by
          show decide ((r, c) ∈ qs) = _
          exact (memE (r, c)).symm
        rw [this]
      have nfl0 : H fl = none := backS sA nfl
      refine for_it walk_keysT (fun i σ H' => Same H H' ∧ H' cd = some (.frz od2 (.dT kvc)) ∧ H' ad = some (.dT kvs) ∧ (∃ x10 : Option V, σ = [some (.ref l), some (.ref lb), some (.ref ls), some (.ref cd), some (.ref ad), x5, x6, x7, x8, some (.ref fl), x10]) ∧
          ∃ us : List (Addr × Pr), H' fl = some (.lst (us.map fun t => V.ref t.1)) ∧ (∀ t ∈ us, H' t.1 = some (.tup [.int t.2.1, .int t.2.2])) ∧ us.map (·.2) = (ks.take i).filter fun x => stepL bs ss (memL ps) x.1 x.2)
        ⟨b0, b1, b2, ⟨_, rfl⟩, [], b3, fun _ m => (by cases m), by simp⟩ (fun i σ H' _ p => p.2.1) ?_ ?_
      · rintro i x σ H2 H7 hi ⟨sm, hcd, had, ⟨x10, rfl⟩, us, hus, htu, eus⟩ ⟨rfl, k, v, q0, e, rfl, hq0⟩
        obtain ⟨y, hy, rfl, rfl⟩ := hmc.at e
        have hq0 : _ = some (HO.tup [.int y.1, .int y.2]) := hq0
        have my := List.mem_of_getElem? hy
        have dgA := Dct.dget (H := H7) (d := ad) (g := fun _ => V.bl true) (x := y) ⟨kvs, had, hm⟩ hq0
        have dgC : DGet H7 cd (.ref q0) (some (.int ((nbq qs y.1 y.2 : Nat) : Int))) := .inr ⟨kvc, keyP y, q0, .inr ⟨od2, hcd⟩, rfl, hq0, by rw [hmc.get y, if_pos my]⟩
        have lu : us.length ≤ i := by
          have z := congrArg List.length eus
          rw [List.length_map] at z
          have := List.length_filter_le (fun x : Pr => stepL bs ss (memL ps) x.1 x.2) (ks.take i)
          rw [List.length_take] at this
          omega
        have lkc := hmc.len
        have hS' := sm _ _ hS
        have hB' := sm _ _ hB
        k_upd
        by_cases m : y ∈ qs
        · rw [if_pos m] at dgA
          have sE : stepL bs ss (memL ps) y.1 y.2 = decide ((nbq qs y.1 y.2 : Int) ∈ ss) := by
            unfold stepL
            rw [memE, if_pos (decide_eq_true m), nbE]
          refine ⟨_, rfl, _, rfl, ad, _, rfl, dgA, _, rfl, iteT ?_⟩
          refine ⟨_, rfl, _, rfl, cd, _, rfl, dgC, _, rfl, ls, _, rfl, .inl (lst_of hS'), rfl, flat_ints _, _, by rw [if_neg Bool.false_ne_true, inV_ints], ite2 (fun c => iteT ?_) (fun c => ?_)⟩
          · have sP : stepL bs ss (memL ps) y.1 y.2 = true := sE.trans c
            refine ⟨_, rfl, .inl ⟨rfl, _, lst_of hus⟩, _, rfl, _, _, _, rfl, rfl, hus, by rw [List.length_map, sizeLine_eq]; omega, ?_⟩
            have off : ∀ (b : Addr) (o : HO), H7 b = some o → (∀ xs, o ≠ .lst xs) → upd H7 fl (.lst ((us.map fun t => V.ref t.1) ++ [.ref q0])) b = some o := fun b o e ne => by
              rw [upd_ne fun z => ?_]
              · exact e
              · rw [z, hus] at e
                exact ne _ (Option.some.inj e).symm
            refine ⟨mutS sm nfl0, off _ _ hcd (fun _ z => by cases z), off _ _ had (fun _ z => by cases z), ⟨_, rfl⟩, us ++ [(q0, y)], by rw [upd_same, List.map_append]; rfl, fun t m => ?_, ?_⟩
            · rcases List.mem_append.mp m with m | m
              · exact off _ _ (htu t m) (fun _ z => by cases z)
              · rw [List.mem_singleton.mp m]
                exact off _ _ hq0 (fun _ z => by cases z)
            · rw [List.map_append, eus, take_next hy, List.filter_append, List.filter_cons, if_pos sP]
              rfl
          · have sP : stepL bs ss (memL ps) y.1 y.2 = false := by
              rw [sE]
              simpa using c
            refine ⟨_, rfl, _, rfl, ad, _, rfl, dgA, _, rfl, iteF ?_⟩
            refine iteF ?_
            refine ⟨sm, hcd, had, ⟨_, rfl⟩, us, hus, htu, ?_⟩
            rw [eus, take_next hy, List.filter_append, List.filter_cons, if_neg (by rw [sP]; decide)]
            exact (List.append_nil _).symm
        · rw [if_neg m] at dgA
          have sE : stepL bs ss (memL ps) y.1 y.2 = decide ((nbq qs y.1 y.2 : Int) ∈ bs) := by
            unfold stepL
            rw [memE, if_neg (by rw [decide_eq_false m]; decide), nbE]
          refine ⟨_, rfl, _, rfl, ad, _, rfl, dgA, _, rfl, iteF ?_⟩
          refine iteF ?_
          refine ⟨_, rfl, _, rfl, ad, _, rfl, dgA, _, rfl, iteT ?_⟩
          refine ⟨_, rfl, _, rfl, cd, _, rfl, dgC, _, rfl, lb, _, rfl, .inl (lst_of hB'), rfl, flat_ints _, _, by rw [if_neg Bool.false_ne_true, inV_ints], ite2 (fun c => ?_) (fun c => ?_)⟩
          · have sP : stepL bs ss (memL ps) y.1 y.2 = true := sE.trans c
            refine ⟨_, rfl, .inl ⟨rfl, _, lst_of hus⟩, _, rfl, _, _, _, rfl, rfl, hus, by rw [List.length_map, sizeLine_eq]; omega, ?_⟩
            have off : ∀ (b : Addr) (o : HO), H7 b = some o → (∀ xs, o ≠ .lst xs) → upd H7 fl (.lst ((us.map fun t => V.ref t.1) ++ [.ref q0])) b = some o := fun b o e ne => by
              rw [upd_ne fun z => ?_]
              · exact e
              · rw [z, hus] at e
                exact ne _ (Option.some.inj e).symm
            refine ⟨mutS sm nfl0, off _ _ hcd (fun _ z => by cases z), off _ _ had (fun _ z => by cases z), ⟨_, rfl⟩, us ++ [(q0, y)], by rw [upd_same, List.map_append]; rfl, fun t m => ?_, ?_⟩
            · rcases List.mem_append.mp m with m | m
              · exact off _ _ (htu t m) (fun _ z => by cases z)
              · rw [List.mem_singleton.mp m]
                exact off _ _ hq0 (fun _ z => by cases z)
            · rw [List.map_append, eus, take_next hy, List.filter_append, List.filter_cons, if_pos sP]
              rfl
          · have sP : stepL bs ss (memL ps) y.1 y.2 = false := by
              rw [sE]
              simpa using c
            refine ⟨sm, hcd, had, ⟨_, rfl⟩, us, hus, htu, ?_⟩
            rw [eus, take_next hy, List.filter_append, List.filter_cons, if_neg (by rw [sP]; decide)]
            exact (List.append_nil _).symm
      · rintro σ H7 ⟨sm, hcd, had, ⟨x10, rfl⟩, us, hus, htu, eus⟩
        rw [hmc.len, List.take_of_length_le (Nat.le_refl _)] at eus
        refine ⟨hcd, ?_⟩
        have sF : Same H (upd H7 cd (.dT kvc)) := mutS sm ncd
        have cF : Cells (upd H7 cd (.dT kvc)) fl (us.map (·.2)) := Cells.mut ⟨us, hus, htu, rfl⟩ nfc fun xs e => by
          rw [hcd] at e
          cases e
        have ndu : (us.map (·.2)).Nodup := by
          rw [eus]
          exact ndk.filter _
        refine ⟨_, rfl, fl, _, rfl, cF, ndu, fun p H8 rs e8 n8 c8 can l8 => q H8 p rs (backS sF n8) (sF.trans e8) c8 can.1 fun x => ?_⟩
        rw [can.2, eus, List.mem_filter]
        refine ⟨fun h => h.2, fun h => ⟨?_, h⟩⟩
        refine (mk x).mpr ?_
        by_cases m : x ∈ qs
        · exact ⟨x, m, .inl rfl⟩
        · refine Classical.byContradiction fun no => ?_
          have z := nbq_zero (qs := qs) (x := x) fun y my ny => no ⟨y, my, .inr ny⟩
          have h : stepL bs ss (memL ps) x.1 x.2 = true := h
          unfold stepL at h
          rw [memE, if_neg (by rw [decide_eq_false m]; decide), ← nbE, z] at h
          have := hb _ (of_decide_eq_true h)
          omega
end
end My
namespace My
open PySem PySem.Spec PyProof.Rows L2 Vx
open TL
local macro_rules | `(tactic| k_invariant "new" ($n, $H:ident, $e:ident, $h:ident)) => `(tactic| (generalize hE : upd _ _ _ = $H; obtain ⟨$e:ident, $h:ident⟩ := gen_e hE $n; clear hE))
local macro_rules | `(tactic| k_places) => `(tactic| first
  | assumption
  | exact lst_of (by assumption)
  | exact tup_of (by assumption)
  | (refine getS (by assumption) ?_; k_places)
  | (refine Same.seq (by assumption) ?_; k_places)
  | (refine tupS (by assumption) ?_; k_places)
  | (refine lst_of ?_; k_places)
  | (refine tup_of ?_; k_places))
local macro_rules | `(tactic| k_subL) => `(tactic| first
  | k_places
  | solve_by_elim (maxDepth := 10) [getS, lst_of, tup_of, Same.seq, tupS])
local macro_rules | `(tactic| k_offL) => `(tactic| first
  | (show (0 : Int) < _; first | omega | decide)
  | (refine ⟨?_, ?_⟩ <;> first | omega | decide)
  | exact .inr ⟨by decide, by decide⟩
  | exact .inl ⟨by decide, by decide⟩
  | exact .inl ⟨by omega, by omega⟩
  | omega)
local macro_rules | `(tactic| k_clsL) => `(tactic| exact Nat.le_of_ble_eq_true rfl)
local macro_rules | `(tactic| k_upd) => `(tactic| simp only [L2.start, List.map_cons, List.map_nil, List.length_cons, List.length_nil, List.replicate_succ, List.replicate_zero, List.cons_append, List.nil_append, List.set_cons_zero, List.set_cons_succ])
section
variable {P : Program} {w : World} {K : PySem.W.Frag} {mg : Str → Option Value} {base : Heap}
theorem ok_law_cell (T : Txt K mg) : FnOk P w K mg base CX0 1 T.f_law_cell T.d_law_cell ["script", "k"] (spCell K) := by
  refine T.F_law_cell.ok sc_law_cell (fun vs H Q E h => ?_) (fun cdv A outer s H vs Q E hr h => ?_)
  · obtain ⟨l, ns, j, rfl, _⟩ := h
    rfl
  · obtain ⟨l, ns, j, rfl, hs, q⟩ := h
    refine ⟨_, (pss_cons (ps_if (pt_cmpR op_lt (pv 1) (pe_callB call_lenL (by rfl) T.z_len (by decide +kernel) (pa_cons (pv 0) pa_nil)) (nomark _))
      (pss_one (ps_ret (pe_callTy call_intI (by rfl) T.z_int (by decide +kernel) (pa_cons (pe_ix ix_list (pv 0) (pv 1) (fun _ _ => rfl)) pa_nil))))
      pss_nil)
      (pss_one (ps_ret pe_int))), ?_⟩
    refine ⟨_, rfl, _, rfl, _, _, rfl, hs, _, _, rfl, rfl, _, rfl, ite2 (fun c => ?_) (fun c => ?_)⟩
    · have hj : j < ns.length := by
        have z := of_decide_eq_true c
        rw [List.length_map] at z
        omega
      exact ⟨_, rfl, _, rfl, _, _, _, _, rfl, rfl, hs, atI_cell hj, _, rfl, q⟩
    · have hj : ¬ j < ns.length := fun z => c (decide_eq_true (by rw [List.length_map]; omega))
      rw [cell_out hj] at q
      exact q
/-! ### law_row: so many numbers from 0 to below the bound -/
def sp_law_row : Sp := fun vs H Q _ => ∃ (cell count bound : Int), vs = [.int cell, .int count, .int bound] ∧ 0 ≤ count ∧ count ≤ 100000 ∧ 0 < bound ∧ bound < 1000000000 ∧
  ∀ (H' : Hp) (p : Addr) (xs : List Int), H p = none → Same H H' → H' p = some (.lst (xs.map V.int)) → (xs.length : Int) = count → (∀ x ∈ xs, 0 ≤ x ∧ x < bound) → Q (.ref p) H'
theorem ok_law_row (T : Txt K mg) : FnOk P w K mg base CX0 1 T.f_law_row T.d_law_row ["cell", "count", "bound"] sp_law_row := by
  refine T.F_law_row.ok sc_law_row (fun vs H Q E h => ?_) (fun cdv A outer s H vs Q E hr h => ?_)
  · obtain ⟨_, _, _, rfl, _⟩ := h
    rfl
  · obtain ⟨cell, count, bound, rfl, c0, c1, b0, b1, q⟩ := h
    refine ⟨_, (pss_cons (ps_set (i := 3) sc_law_row.nd rfl (.inl rfl) (pe_callB call_abs (by rfl) T.z_abs (by decide +kernel) (pa_cons (pe_callTy call_intI (by rfl) T.z_int (by decide +kernel) (pa_cons (pv 0) pa_nil)) pa_nil)))
      (pss_cons (ps_set (i := 4) sc_law_row.nd rfl (.inl rfl) (pe_op op_add (pe_op op_mod (pe_callTy call_intI (by rfl) T.z_int (by decide +kernel) (pa_cons (pv 0) pa_nil)) pe_int) pe_int))
      (pss_cons (ps_set (i := 5) sc_law_row.nd rfl (.inl rfl) (pe_lst pa_nil))
      (pss_cons (ps_for PassesOwn.never rfl (pi_range1 (by rfl) T.z_range (pa_cons (pv 1) pa_nil)) (pg_name (i := 6) sc_law_row.nd rfl (.inl rfl))
      (pss_one (ps_if (pt_cmpR op_ge (pv 3) (pv 2) (nomark _))
      (pss_cons (ps_expr (pe_bm PySem.F.plainAttrs_list PySem.F.slot_list_append PySem.F.type_list_append mt_append (pv 5) (pa_cons (pe_op op_mod (pe_callTy call_intI (by rfl) T.z_int (by decide +kernel) (pa_cons (pv 3) pa_nil)) (pv 2)) pa_nil)))
      (pss_one (ps_set (i := 3) sc_law_row.nd rfl (.inl rfl) (pe_op op_fdiv (pv 3) (pv 2)))))
      (pss_cons (ps_set (i := 4) sc_law_row.nd rfl (.inl rfl) (pe_op op_mod (pe_callTy call_intI (by rfl) T.z_int (by decide +kernel) (pa_cons (pe_op op_add (pe_op op_add (pe_op op_mul (pv 4) pe_int) (pe_op op_mul pe_int (pv 6))) pe_int) pa_nil)) pe_int))
      (pss_one (ps_expr (pe_bm PySem.F.plainAttrs_list PySem.F.slot_list_append PySem.F.type_list_append mt_append (pv 5) (pa_cons (pe_op op_mod (pe_callTy call_intI (by rfl) T.z_int (by decide +kernel) (pa_cons (pe_op op_fdiv (pe_op op_mul (pv 4) pe_int) pe_int) pa_nil)) (pv 2)) pa_nil))))))))
      (pss_one (ps_ret (pv 5))))))), ?_⟩
    refine ⟨_, rfl, _, rfl, _, rfl, _, rfl, _, rfl, _, _, rfl, rfl, (by k_offL), _, _, rfl, rfl, Nat.zero_le _, fun p1 n1 => ?_⟩
    k_invariant "new" (n1, H1, e1, h1)
    refine ⟨_, rfl, _, rfl, by omega, by omega, for_range (lo := 0) (n := count.toNat) (fun i σ H' => ∃ (rest mixed : Int) (xs : List Int) (v : Option V), σ = [some (.int cell), some (.int count), some (.int bound), some (.int rest), some (.int mixed), some (.ref p1), v] ∧
      Same H H' ∧ H' p1 = some (.lst (xs.map V.int)) ∧ xs.length = i ∧ (∀ x ∈ xs, 0 ≤ x ∧ x < bound) ∧ 0 ≤ mixed ∧ mixed < 4294967296) ?_ ?_ ?_⟩
    · refine ⟨_, _, [], none, rfl, e1, h1, rfl, by simp, ?_, ?_⟩
      · have := Int.emod_nonneg cell (show (1000003 : Int) ≠ 0 by decide)
        omega
      · have := Int.emod_lt_of_pos cell (show (0 : Int) < 1000003 by decide)
        omega
    · rintro i σ H' hi ⟨rest, mixed, xs, v, rfl, sm, hp, hl, hx, m0, m1⟩
      refine ⟨_, rfl, _, rfl, _, _, rfl, rfl, _, rfl, ite2 (fun c => ?_) (fun c => ?_)⟩
      · refine ⟨_, rfl, .inl ⟨rfl, _, lst_of hp⟩, _, rfl, _, rfl, _, rfl, _, _, rfl, rfl, b0, _, _, _, rfl, rfl, hp, ?_, ?_⟩
        · rw [List.length_map]
          exact Nat.lt_of_lt_of_le (show xs.length < 100001 by omega) (by decide)
        · refine ⟨_, rfl, _, rfl, _, _, rfl, rfl, ⟨b0, by omega⟩, _, _, xs ++ [rest % bound], _, rfl, mutS sm n1, ?_, by simp [hl], fun x h => ?_, m0, m1⟩
          · rw [upd_same]
            simp
          · rcases List.mem_append.mp h with h | h
            · exact hx x h
            · rw [List.mem_singleton.mp h]
              exact ⟨Int.emod_nonneg _ (by omega), Int.emod_lt_of_pos _ b0⟩
      · refine ⟨_, rfl, _, _, rfl, rfl, .inr ⟨by decide, by decide⟩, _, rfl, _, _, rfl, rfl, .inl ⟨by decide, by decide⟩, _, _, rfl, rfl, _, _, rfl, rfl, _, rfl, _, _, rfl, rfl, (by k_offL), ?_⟩
        refine ⟨_, rfl, .inl ⟨rfl, _, lst_of hp⟩, _, rfl, _, _, rfl, rfl, .inr ⟨by decide, by decide⟩, _, _, rfl, rfl, ⟨by decide, by decide⟩, _, rfl, _, rfl, _, _, rfl, rfl, b0, _, _, _, rfl, rfl, hp, ?_, ?_⟩
        · rw [List.length_map]
          exact Nat.lt_of_lt_of_le (show xs.length < 100001 by omega) (by decide)
        · refine ⟨_, _, xs ++ [(mixed * 48271 + 11 * (0 + (i : Int)) + 7) % 2147483647 * 2862933555777941757 / 1024 % bound], _, rfl, mutS sm n1, ?_, by simp [hl], fun x h => ?_, Int.emod_nonneg _ (by decide), ?_⟩
          · rw [upd_same, List.map_append]
            rfl
          · rcases List.mem_append.mp h with h | h
            · exact hx x h
            · rw [List.mem_singleton.mp h]
              exact ⟨Int.emod_nonneg _ (by omega), Int.emod_lt_of_pos _ b0⟩
          · exact Int.lt_trans (Int.emod_lt_of_pos _ (by decide)) (by decide)
    · rintro σ H' ⟨rest, mixed, xs, v, rfl, sm, hp, hl, hx, _, _⟩
      exact ⟨_, rfl, q H' p1 xs n1 sm hp (by omega) hx⟩
def Good (lo : Int) (l : List Int) : Prop := l.Pairwise (· < ·) ∧ (∀ b ∈ l, lo ≤ b ∧ b ≤ 8) ∧ l.length ≤ 9
theorem pow9 : ∀ n : Nat, n ≤ 9 → 0 < (2 : Int) ^ n ∧ (2 : Int) ^ n ≤ 512 := by decide
theorem good_snoc {lo hi : Int} {l : List Int} (h1 : l.Pairwise (· < ·)) (h2 : ∀ b ∈ l, lo ≤ b ∧ b < hi) (h : lo ≤ hi) : (l ++ [hi]).Pairwise (· < ·) ∧ ∀ b ∈ l ++ [hi], lo ≤ b ∧ b < hi + 1 := by
  constructor
  · rw [List.pairwise_append]
    refine ⟨h1, by simp, fun a ha b hb => ?_⟩
    rw [List.mem_singleton.mp hb]
    exact (h2 a ha).2
  · intro b hb
    rcases List.mem_append.mp hb with hb | hb
    · have := h2 b hb
      omega
    · rw [List.mem_singleton.mp hb]
      omega
def sp_law_numbers : Sp := fun vs H Q _ => ∃ (cell : Int), vs = [.int cell] ∧
  ∀ (H' : Hp) (p pb ps : Addr) (bs ss : List Int), Same H H' → H' p = some (.tup [.ref pb, .ref ps]) → H' pb = some (.lst (bs.map V.int)) → H' ps = some (.lst (ss.map V.int)) → Good 1 bs → Good 0 ss → Q (.ref p) H'
theorem ok_law_numbers (T : Txt K mg) : FnOk P w K mg base CX0 1 T.f_law_numbers T.d_law_numbers ["cell"] sp_law_numbers := by
  refine T.F_law_numbers.ok sc_law_numbers (fun vs H Q E h => ?_) (fun cdv A outer s H vs Q E hr h => ?_)
  · obtain ⟨_, rfl, _⟩ := h
    rfl
  · obtain ⟨cell, rfl, q⟩ := h
    refine ⟨_, (pss_cons (ps_set (i := 1) sc_law_numbers.nd rfl (.inr rfl) (pe_callB call_abs (by rfl) T.z_abs (by decide +kernel) (pa_cons (pe_callTy call_intI (by rfl) T.z_int (by decide +kernel) (pa_cons (pv 0) pa_nil)) pa_nil)))
      (pss_cons (ps_setLc (i := 2) (own := [("k", 4)]) (g := gName 4) rfl sc_law_numbers.nd rfl rfl (sw_true rfl rfl rfl (by decide +kernel)) (pi_range2 (by rfl) T.z_range (pa_cons pe_int (pa_cons pe_int pa_nil))) (blkOk_by (own := [("k", 4)]) (N := N_law_numbers) (sc := defScope s_law_numbers) (by decide +kernel)) (fun _ _ _ _ _ => pg_name (i := 4) sc_law_numbers.nd rfl (Or.inl rfl)) (fun _ _ _ _ _ => pts_one (pt_cmpR op_eq (pe_op op_mod (pe_op op_fdiv (pv 1) (pe_op op_shl pe_int (pv 4))) pe_int) pe_int (nomark _))) (fun _ _ _ _ _ => (pv 4)))
      (pss_cons (ps_setLc (i := 3) (own := [("k", 4)]) (g := gName 4) rfl sc_law_numbers.nd rfl rfl (sw_true rfl rfl rfl (by decide +kernel)) (pi_range1 (by rfl) T.z_range (pa_cons pe_int pa_nil)) (blkOk_by (own := [("k", 4)]) (N := N_law_numbers) (sc := defScope s_law_numbers) (by decide +kernel)) (fun _ _ _ _ _ => pg_name (i := 4) sc_law_numbers.nd rfl (Or.inl rfl)) (fun _ _ _ _ _ => pts_one (pt_cmpR op_eq (pe_op op_mod (pe_op op_fdiv (pv 1) (pe_op op_shl pe_int (pv 4))) pe_int) pe_int (nomark _))) (fun _ _ _ _ _ => (pv 4)))
      (pss_cons (ps_if (pt_cmpR op_eq (pe_op op_mod (pe_op op_fdiv (pv 1) pe_int) pe_int) pe_int (nomark _))
      (pss_cons (ps_set (i := 2) sc_law_numbers.nd rfl (.inl rfl) (pe_ix ix_list (pe_lst (pa_cons (pe_lst (pa_cons pe_int pa_nil)) (pa_cons (pe_lst (pa_cons pe_int (pa_cons pe_int pa_nil))) (pa_cons (pe_lst (pa_cons pe_int pa_nil)) (pa_cons (pe_lst (pa_cons pe_int (pa_cons pe_int (pa_cons pe_int pa_nil)))) (pa_cons (pe_lst (pa_cons pe_int (pa_cons pe_int pa_nil))) pa_nil)))))) (pe_op op_mod (pe_op op_fdiv (pv 1) pe_int) pe_int) (fun _ _ => rfl)))
      (pss_one (ps_set (i := 3) sc_law_numbers.nd rfl (.inl rfl) (pe_ix ix_list (pe_lst (pa_cons (pe_lst (pa_cons pe_int (pa_cons pe_int pa_nil))) (pa_cons (pe_lst (pa_cons pe_int (pa_cons pe_int pa_nil))) (pa_cons (pe_lst pa_nil) (pa_cons (pe_lst (pa_cons pe_int (pa_cons pe_int (pa_cons pe_int (pa_cons pe_int pa_nil))))) (pa_cons (pe_lst (pa_cons pe_int (pa_cons pe_int (pa_cons pe_int pa_nil)))) pa_nil)))))) (pe_op op_mod (pe_op op_fdiv (pv 1) pe_int) pe_int) (fun _ _ => rfl)))))
      pss_nil)
      (pss_one (ps_ret (pe_tup (pa_cons (pv 2) (pa_cons (pv 3) pa_nil))))))))), ?_⟩
    refine ⟨_, rfl, _, rfl, _, rfl, ?_⟩
    generalize (if cell < 0 then -cell else cell) = x
    -- births
    refine ⟨1, 9, rfl, ⟨by decide, by decide, by decide, by decide⟩, fun p1 n1 => lc_range (lo := 1) (n := 8) (fun i H' => ∃ ys : List Int, Same H H' ∧ H' p1 = some (.lst (ys.map V.int)) ∧ ys.length ≤ i ∧ ys.Pairwise (· < ·) ∧ ∀ b ∈ ys, 1 ≤ b ∧ b < 1 + (i : Int))
      ⟨[], newS n1, upd_same, by simp, by simp, by simp⟩ ?_ ?_⟩
    · rintro i H' hi ⟨ys, sm, hp, hl, h1, h2⟩
      have pw := pow9 (1 + (i : Int)).toNat (by omega)
      refine ⟨rfl, _, rfl, _, rfl, _, _, rfl, rfl, ⟨by omega, by omega, by decide⟩, _, _, rfl, rfl, ⟨?_, ?_⟩, _, _, rfl, rfl, (by k_offL), rfl, _, rfl, ite2 (fun c => ?_) (fun c => ?_)⟩
      · show (0 : Int) < 1 * 2 ^ (1 + (i : Int)).toNat
        omega
      · show (1 : Int) * 2 ^ (1 + (i : Int)).toNat < 1073741824
        omega
      · have g := good_snoc h1 h2 (by omega)
        refine ⟨_, rfl, _, hp, ?_, ys ++ [1 + (i : Int)], mutS sm n1, ?_, by simp; omega, g.1, fun b hb => ?_⟩
        · rw [List.length_map]
          exact Nat.lt_of_lt_of_le (show ys.length < 100 by omega) (by decide)
        · rw [upd_same, List.map_append]
          rfl
        · have := g.2 b hb
          omega
      · exact ⟨ys, sm, hp, by omega, h1, fun b hb => by have := h2 b hb; omega⟩
    rintro H1 ⟨bs, e1, hb, lb, gb1, gb2⟩
    have gb : Good 1 bs := ⟨gb1, fun b h => by have := gb2 b h; omega, by omega⟩
    -- survival
    refine ⟨9, rfl, by decide, by decide, fun p2 n2 => lc_range (lo := 0) (n := 9) (fun i H' => ∃ ys : List Int, Same H1 H' ∧ H' p2 = some (.lst (ys.map V.int)) ∧ ys.length ≤ i ∧ ys.Pairwise (· < ·) ∧ ∀ b ∈ ys, 0 ≤ b ∧ b < 0 + (i : Int))
      ⟨[], newS n2, upd_same, by simp, by simp, by simp⟩ ?_ ?_⟩
    · rintro i H' hi ⟨ys, sm, hp, hl, h1, h2⟩
      have pw := pow9 (0 + (i : Int)).toNat (by omega)
      refine ⟨rfl, _, rfl, _, rfl, _, _, rfl, rfl, ⟨by omega, by omega, by decide⟩, _, _, rfl, rfl, ⟨?_, ?_⟩, _, _, rfl, rfl, (by k_offL), rfl, _, rfl, ite2 (fun c => ?_) (fun c => ?_)⟩
      · show (0 : Int) < 512 * 2 ^ (0 + (i : Int)).toNat
        omega
      · show (512 : Int) * 2 ^ (0 + (i : Int)).toNat < 1073741824
        omega
      · have g := good_snoc h1 h2 (by omega)
        refine ⟨_, rfl, _, hp, ?_, ys ++ [0 + (i : Int)], mutS sm n2, ?_, by simp; omega, g.1, fun b hb => ?_⟩
        · rw [List.length_map]
          exact Nat.lt_of_lt_of_le (show ys.length < 100 by omega) (by decide)
        · rw [upd_same, List.map_append]
          rfl
        · have := g.2 b hb
          omega
      · exact ⟨ys, sm, hp, by omega, h1, fun b hb => by have := h2 b hb; omega⟩
    rintro H2 ⟨ss, e2, hs, ls, gs1, gs2⟩
    have gs : Good 0 ss := ⟨gs1, fun b h => by have := gs2 b h; omega, by omega⟩
    have hb2 := getS e2 hb
    have e02 := e1.trans e2
    -- if
    refine ⟨_, rfl, _, _, rfl, rfl, ⟨by decide, by decide⟩, _, _, rfl, rfl, (by k_offL), rfl, _, rfl, ite2 (fun c => ?_) (fun c => ?_)⟩
    · refine ⟨by decide, fun a1 m1 => ?_⟩
      k_invariant "new" (m1, A1, ea1, h1)
      refine ⟨by decide, fun a2 m2 => ?_⟩
      k_invariant "new" (m2, A2, ea2, h2)
      refine ⟨by decide, fun a3 m3 => ?_⟩
      k_invariant "new" (m3, A3, ea3, h3)
      refine ⟨by decide, fun a4 m4 => ?_⟩
      k_invariant "new" (m4, A4, ea4, h4)
      refine ⟨by decide, fun a5 m5 => ?_⟩
      k_invariant "new" (m5, A5, ea5, h5)
      refine ⟨by k_clsL, fun a6 m6 => ?_⟩
      k_invariant "new" (m6, A6, ea6, h6)
      have pick : ∃ (pb : Addr) (l : List Int), atI [V.ref a1, .ref a2, .ref a3, .ref a4, .ref a5] (x / 786432 % 5) = some (.ref pb) ∧ A6 pb = some (.lst (l.map V.int)) ∧ Good 1 l := by
        have z0 := Int.emod_nonneg (x / 786432) (show (5 : Int) ≠ 0 by decide)
        have z1 := Int.emod_lt_of_pos (x / 786432) (show (0 : Int) < 5 by decide)
        generalize x / 786432 % 5 = j at z0 z1
        have : j = 0 ∨ j = 1 ∨ j = 2 ∨ j = 3 ∨ j = 4 := by omega
        rcases this with rfl | rfl | rfl | rfl | rfl
        · exact ⟨a1, [3], rfl, by k_subL, by unfold Good; decide⟩
        · exact ⟨a2, [3, 6], rfl, by k_subL, by unfold Good; decide⟩
        · exact ⟨a3, [2], rfl, by k_subL, by unfold Good; decide⟩
        · exact ⟨a4, [3, 7, 8], rfl, by k_subL, by unfold Good; decide⟩
        · exact ⟨a5, [2, 5], rfl, by k_subL, by unfold Good; decide⟩
      obtain ⟨pb, l, hpk, hl, gl⟩ := pick
      refine ⟨_, rfl, _, _, rfl, rfl, ⟨by decide, by decide⟩, _, _, rfl, rfl, (by k_offL), _, _, _, _, rfl, rfl, by k_subL, hpk, ?_⟩
      refine ⟨by decide, fun b1 m1 => ?_⟩
      k_invariant "new" (m1, B1, eb1, h1)
      refine ⟨by decide, fun b2 m2 => ?_⟩
      k_invariant "new" (m2, B2, eb2, h2)
      refine ⟨by decide, fun b3 m3 => ?_⟩
      k_invariant "new" (m3, B3, eb3, h3)
      refine ⟨by decide, fun b4 m4 => ?_⟩
      k_invariant "new" (m4, B4, eb4, h4)
      refine ⟨by decide, fun b5 m5 => ?_⟩
      k_invariant "new" (m5, B5, eb5, h5)
      refine ⟨by k_clsL, fun b6 m6 => ?_⟩
      k_invariant "new" (m6, B6, eb6, h6)
      have pick : ∃ (pb : Addr) (l : List Int), atI [V.ref b1, .ref b2, .ref b3, .ref b4, .ref b5] (x / 3932160 % 5) = some (.ref pb) ∧ B6 pb = some (.lst (l.map V.int)) ∧ Good 0 l := by
        have z0 := Int.emod_nonneg (x / 3932160) (show (5 : Int) ≠ 0 by decide)
        have z1 := Int.emod_lt_of_pos (x / 3932160) (show (0 : Int) < 5 by decide)
        generalize x / 3932160 % 5 = j at z0 z1
        have : j = 0 ∨ j = 1 ∨ j = 2 ∨ j = 3 ∨ j = 4 := by omega
        rcases this with rfl | rfl | rfl | rfl | rfl
        · exact ⟨b1, [2, 3], rfl, by k_subL, by unfold Good; decide⟩
        · exact ⟨b2, [2, 3], rfl, by k_subL, by unfold Good; decide⟩
        · exact ⟨b3, [], rfl, by k_subL, by unfold Good; decide⟩
        · exact ⟨b4, [2, 3, 4, 5], rfl, by k_subL, by unfold Good; decide⟩
        · exact ⟨b5, [3, 4, 6], rfl, by k_subL, by unfold Good; decide⟩
      obtain ⟨ps, m, hpk2, hm, gm⟩ := pick
      refine ⟨_, rfl, _, _, rfl, rfl, ⟨by decide, by decide⟩, _, _, rfl, rfl, (by k_offL), _, _, _, _, rfl, rfl, by k_subL, hpk2, ?_⟩
      refine ⟨_, rfl, _, rfl, by k_clsL, fun r nr => ?_⟩
      k_invariant "new" (nr, R1, er, hr1)
      exact q R1 r pb ps l m (e02.trans (ea1.trans (ea2.trans (ea3.trans (ea4.trans (ea5.trans (ea6.trans (eb1.trans (eb2.trans (eb3.trans (eb4.trans (eb5.trans (eb6.trans er))))))))))))) hr1 (by k_subL) (by k_subL) gl gm
    · refine ⟨_, rfl, _, rfl, by k_clsL, fun r nr => ?_⟩
      k_invariant "new" (nr, R1, er, hr1)
      exact q R1 r p1 p2 bs ss (e02.trans er) hr1 (by k_subL) (by k_subL) gb gs
/-! ### law_some: some cells of a box, ascending -/
def sp_law_some : Sp := fun vs H Q _ => ∃ (cell count h v : Int), vs = [.int cell, .int count, .int h, .int v] ∧ 0 ≤ count ∧ count ≤ 1000 ∧ 0 < h ∧ h ≤ 1000 ∧ 0 < v ∧ v ≤ 1000 ∧
  ∀ (H' : Hp) (p : Addr) (ps : List Pr), H p = none → Same H H' → Cells H' p ps → ps.Pairwise ltP → (ps.length : Int) ≤ count → (∀ x ∈ ps, 0 ≤ x.1 ∧ x.1 < h ∧ 0 ≤ x.2 ∧ x.2 < v) → Q (.ref p) H'
theorem ok_law_some (T : Txt K mg) : FnOk P w K mg base CX0 2 T.f_law_some T.d_law_some ["cell", "count", "height", "width"] sp_law_some := by
  refine T.F_law_some.ok sc_law_some (fun vs H Q E h => ?_) (fun cdv A outer s H vs Q E hr h => ?_)
  · obtain ⟨_, _, _, _, rfl, _⟩ := h
    rfl
  · obtain ⟨cell, count, h, v, rfl, c0, c1, h0, h1, v0, v1, q⟩ := h
    have hu : (A.deeper (envOfC (Str.ofString "_law_some") (defScope s_law_some) s.heap.objs.size T.f_law_some cdv)).units + 1 < cLine := by
      have := hr.units
      omega
    refine ⟨_, (pss_cons (ps_set (i := 4) sc_law_some.nd rfl (.inl rfl) (pe_callB call_abs (by rfl) T.z_abs (by decide +kernel) (pa_cons (pe_callTy call_intI (by rfl) T.z_int (by decide +kernel) (pa_cons (pv 0) pa_nil)) pa_nil)))
      (pss_cons (ps_set (i := 5) sc_law_some.nd rfl (.inl rfl) pe_dnewT)
      (pss_cons (ps_for PassesOwn.never rfl (pi_list (pe_call (ok_law_row T) (hr.mono (by decide)) (by rfl) T.g_law_row T.F_law_row.kp T.b_law_row .nil pass0 (pa_cons (pv 0) (pa_cons (pv 1) (pa_cons (pe_op op_mul (pv 2) (pv 3)) pa_nil))))) (pg_name (i := 6) sc_law_some.nd rfl (.inl rfl))
      (pss_one (ps_dput hu (pv 5) (pe_tup (pa_cons (pe_op op_fdiv (pv 6) (pv 3)) (pa_cons (pe_op op_mod (pv 6) (pv 3)) pa_nil))) pe_bl rfl)))
      (pss_one (ps_ret (pe_callB cr_sortedC (by rfl) T.z_sorted (by decide +kernel) (pa_cons (pe_lock (pe_lc (own := [("place", 7)]) (g := gName 7) (tt := tYes) rfl sc_law_some.nd (pi_keys (pv 5)) (blkOk_by (own := [("place", 7)]) (N := N_law_some) (sc := defScope s_law_some) (by decide +kernel)) (fun _ _ _ _ _ => pg_name (i := 7) sc_law_some.nd rfl (Or.inl rfl)) (fun _ _ _ _ _ => pts_nil) (fun _ _ _ _ _ => (pv 7)))) pa_nil))))))), ?_⟩
    have b0 : 0 < h * v := Int.mul_pos h0 v0
    have b1 : h * v < 1000000000 := by
      have := Int.mul_le_mul h1 v1 (by omega) (by decide)
      omega
    refine ⟨_, rfl, _, rfl, _, rfl, fun d nd => ?_⟩
    k_invariant "new" (nd, H1, e1, g1)
    refine ⟨_, rfl, _, rfl, _, rfl, _, rfl, _, _, rfl, rfl, (by k_offL), _, _, _, rfl, c0, by omega, b0, b1, fun H2 p2 xs n2 e2 g2 l2 m2 => ?_⟩
    have nd2 : d ≠ p2 := neS g1 (fun _ _ z => z) n2
    refine ⟨p2, rfl, ⟨_, lst_of g2⟩, for_list (K := K) (a := p2) (xs := xs.map V.int) (fun i σ H' => Same H H' ∧ H' p2 = some (.lst (xs.map V.int)) ∧ (∃ (x y z : Option V), σ = [some (.int cell), some (.int count), some (.int h), some (.int v), x, some (.ref d), y, z]) ∧ ∃ kvs ps, H' d = some (.dT kvs) ∧ KeysP kvs ps ∧ ps.length ≤ i ∧ ∀ x ∈ ps, 0 ≤ x.1 ∧ x.1 < h ∧ 0 ≤ x.2 ∧ x.2 < v)
      ⟨e1.trans e2, g2, ⟨_, _, _, rfl⟩, [], [], e2 _ _ g1, ⟨rfl, List.nodup_nil⟩, Nat.le_refl _, fun _ m => (by cases m)⟩ (fun i σ H' _ p => lst_of p.2.1) ?_ ?_⟩
    · rintro i z σ H' hi ⟨sm, gp, ⟨x, y, z1, rfl⟩, kvs, ps, gd, hK, lp, bd⟩
      obtain ⟨n, rfl, _, mn⟩ := item_ints hi
      have bn := m2 n mn
      have li := (List.getElem?_eq_some_iff.mp hi).1
      rw [List.length_map] at li
      refine ⟨_, rfl, _, rfl, _, rfl, _, _, rfl, rfl, ⟨v0, by omega⟩, _, rfl, _, rfl, _, _, rfl, rfl, v0, (by k_clsL), fun t nt => ?_⟩
      have ntd : t ≠ d := fun e => by
        rw [e, gd] at nt
        cases nt
      have ntp : p2 ≠ d := fun e => by
        rw [e, gd] at gp
        cases gp
      obtain ⟨qs, hQ, lq, mq⟩ := hK.put (n / v, n % v) (.bl true)
      refine ⟨d, _, rfl, DPut.t (k := keyP (n / v, n % v)) (newS nt _ _ gd) upd_same (by rw [hK.len, sizeLine_eq]; omega), mutS (sm.trans (newS nt)) nd, ?_, ⟨_, _, _, rfl⟩, _, qs, upd_same, hQ, by omega, fun x m => ?_⟩
      · rw [upd_ne ntp]
        exact newS nt _ _ gp
      · rcases (mq x).mp m with m | e
        · exact bd x m
        · rw [e]
          exact ⟨Int.ediv_nonneg bn.1 (by omega), Int.ediv_lt_of_lt_mul v0 bn.2, Int.emod_nonneg _ (by omega), Int.emod_lt_of_pos _ v0⟩
    · rintro σ H' ⟨sm, gp, ⟨x, y, z1, rfl⟩, kvs, ps, gd, hK, lp, bd⟩
      rw [List.length_map] at lp
      refine ⟨d, _, gd, trivial, fun od => ⟨_, rfl, d, od, rfl, .inr ⟨kvs, upd_same, fun D nD => lc_keysP hK upd_same nD (by rw [sizeLine_eq]; omega) ?_ fun H3 e3 g3 => ?_⟩⟩⟩
      · intro t x H' Po Pn ht hq
        exact ⟨rfl, tyesT ⟨_, rfl, hq⟩⟩
      · have gd3 : H3 d = some (.frz od (.dT kvs)) := e3 _ _ upd_same
        have s3 : Same H (upd H3 d (.dT kvs)) := mutS ((mutS sm nd).trans e3) nd
        have neD : D ≠ d := fun e => by
          rw [e, upd_same] at nD
          cases nD
        refine ⟨gd3, D, ps, rfl, g3.mut neD (fun xs e => ?_), hK.2, fun p H4 qs e4 n4 h4 c4 l4 => q H4 p qs (backS s3 n4) (s3.trans e4) h4 c4.1 (by omega) fun x m => bd x ((c4.2 x).mp m)⟩
        rw [gd3] at e
        cases e
/-! ### what the law says of an answer -/
def sp_law_integer : Sp := fun vs H Q _ => ∃ i : Int, vs = [.int i] ∧ Q (.bl true) H
theorem ok_law_integer (T : Txt K mg) : FnOk P w K mg base CX0 1 T.f_law_integer T.d_law_integer ["value"] sp_law_integer := by
  refine T.F_law_integer.ok sc_law_integer (fun vs H Q E h => ?_) (fun cdv A outer s H vs Q E hr h => ?_)
  · obtain ⟨_, rfl, _⟩ := h
    rfl
  · obtain ⟨i, rfl, q⟩ := h
    refine ⟨_, (pss_one (ps_ret (pe_and (pe_callB call_isi (by rfl) T.z_isinstance (by decide +kernel) (pa_cons (pv 0) (pa_cons (pe_bltn (v := .ty "int") (by rfl) T.z_int (by decide +kernel) rfl) pa_nil))) (pe_one (pe_not (pe_callB call_isi (by rfl) T.z_isinstance (by decide +kernel) (pa_cons (pv 0) (pa_cons (pe_bltn (v := .ty "bool") (by rfl) T.z_bool (by decide +kernel) rfl) pa_nil)))))))), ?_⟩
    exact ⟨_, rfl, _, _, _, _, _, rfl, .ty _, .base (.int _), rfl, _, rfl, _, rfl, _, _, _, _, _, rfl, .ty _, .base (.int _), rfl, _, rfl, q⟩
def sp_law_cells : Sp := fun vs H Q _ => ∃ (l : Addr) (ps : List Pr), vs = [.ref l] ∧ Cells H l ps ∧ ps.Pairwise ltP ∧ ∀ H', Same H H' → Q (.bl true) H'
theorem ok_law_cells (T : Txt K mg) : FnOk P w K mg base CX0 2 T.f_law_cells T.d_law_cells ["value"] sp_law_cells := by
  refine T.F_law_cells.ok sc_law_cells (fun vs H Q E h => ?_) (fun cdv A outer s H vs Q E hr h => ?_)
  · obtain ⟨_, _, rfl, _⟩ := h
    rfl
  · obtain ⟨l, ps, rfl, hC, pw, q⟩ := h
    refine ⟨_, (pss_cons (ps_if (pt_not (pt_val (pe_callB call_isi (by rfl) T.z_isinstance (by decide +kernel) (pa_cons (pv 0) (pa_cons (pe_bltn (v := .ty "list") (by rfl) T.z_list (by decide +kernel) rfl) pa_nil)))))
      (pss_one (ps_ret pe_bl))
      pss_nil)
      (pss_cons (ps_for PassesOwn.never rfl (pi_list (pv 0)) (pg_name (i := 1) sc_law_cells.nd rfl (.inl rfl))
      (pss_one (ps_if (PW.pt (pw_or (pt_not (pt_val (pe_callB call_isi (by rfl) T.z_isinstance (by decide +kernel) (pa_cons (pv 1) (pa_cons (pe_bltn (v := .ty "tuple") (by rfl) T.z_tuple (by decide +kernel) rfl) pa_nil))))) (pw_or (pt_cmpR op_ne (pe_callB call_lenU (by rfl) T.z_len (by decide +kernel) (pa_cons (pv 1) pa_nil)) pe_int (nomark _)) (pw_or (pt_not (pt_val (pe_call (ok_law_integer T) (hr.mono (by decide)) (by rfl) T.g_law_integer T.F_law_integer.kp T.b_law_integer .nil pass0 (pa_cons (pe_ix (ix_tupK (K := K) rfl) (pv 1) pe_int (fun _ _ => rfl)) pa_nil)))) (pw_or1 (pt_not (pt_val (pe_call (ok_law_integer T) (hr.mono (by decide)) (by rfl) T.g_law_integer T.F_law_integer.kp T.b_law_integer .nil pass0 (pa_cons (pe_ix (ix_tupK (K := K) rfl) (pv 1) pe_int (fun _ _ => rfl)) pa_nil)))))))))
      (pss_one (ps_ret pe_bl))
      pss_nil)))
      (pss_one (ps_ret (pe_cmpR (op_eqD hr.units) (pv 0) (pe_callB cr_sortedC (by rfl) T.z_sorted (by decide +kernel) (pa_cons (pv 0) pa_nil)) (nomark _)))))), ?_⟩
    obtain ⟨ts, hl, ht, rfl⟩ := id hC
    refine ⟨_, rfl, _, _, _, _, _, rfl, .ty _, .base (.lst hl), rfl, ?_⟩
    refine ⟨_, rfl, _, rfl, l, rfl, ⟨_, lst_of hl⟩, for_list (K := K) (a := l) (xs := ts.map fun t => V.ref t.1) (fun i σ H' => H' = H ∧ ∃ v : Option V, σ = [some (.ref l), v]) ⟨rfl, _, rfl⟩ (fun i σ H' _ p => by rw [p.1]; exact lst_of hl) ?_ ?_⟩
    · rintro i x σ H' hi ⟨rfl, v, rfl⟩
      obtain ⟨t, mt, rfl, _⟩ := item_cells (H := H') hi rfl
      have g := ht t mt
      refine ⟨_, rfl, _, _, _, _, _, rfl, .ty _, .base (.tup g), rfl, ?_⟩
      refine ⟨_, rfl, _, rfl, _, _, rfl, tup_of g, rfl, _, rfl, iteF ?_⟩
      refine ⟨_, rfl, _, _, _, _, rfl, rfl, tup_of g, rfl, _, rfl, _, rfl, iteF ?_⟩
      refine ⟨_, rfl, _, _, _, _, rfl, rfl, tup_of g, rfl, _, rfl, _, rfl, iteF ?_⟩
      exact ⟨rfl, _, rfl⟩
    · rintro σ H' ⟨rfl, v, rfl⟩
      refine ⟨_, rfl, _, rfl, _, _, rfl, hC, nodup_lt pw, fun p H1 qs e1 n1 h1 c1 l1 => ⟨_, _, dp_cells (hC.up e1), dp_cells h1, shaped_cells _, shaped_cells _, ?_⟩⟩
      rw [eqv_cells, canP_eq c1 pw fun _ => Iff.rfl, decide_eq_true rfl]
      exact q H1 e1
theorem gen_box {bs ss : List Int} {L : Int → Int → Bool} {r0 r1 c0 c1 : Int} (hb : ∀ b ∈ bs, 1 ≤ b ∧ b ≤ 8) (h : ∀ r c, L r c = true → r0 ≤ r ∧ r ≤ r1 ∧ c0 ≤ c ∧ c ≤ c1) :
    ∀ n r c, genL bs ss L n r c = true → r0 - (n : Int) ≤ r ∧ r ≤ r1 + n ∧ c0 - (n : Int) ≤ c ∧ c ≤ c1 + n
  | 0, r, c, z => by
    have := h r c z
    omega
  | n + 1, r, c, z => by
    obtain ⟨r', c', a1, a2, a3, a4, z'⟩ := stepL_near hb z
    have := gen_box hb h n r' c' z'
    omega
theorem box_len {ps : List Pr} (nd : ps.Nodup) (h : ∀ x ∈ ps, -8 ≤ x.1 ∧ x.1 ≤ 14 ∧ -8 ≤ x.2 ∧ x.2 ≤ 14) : ps.length ≤ 529 := by
  have nd2 : (ps.map fun x => ((x.1 + 8) * 23 + (x.2 + 8)).toNat).Nodup := by
    refine List.pairwise_map.mpr (nd.imp_of_mem fun {x y} mx my ne e => ne ?_)
    have := h x mx
    have := h y my
    exact Prod.ext (by omega) (by omega)
  have := nat_nodup_len _ (List.range 529) nd2 fun k m => by
    obtain ⟨x, mx, rfl⟩ := List.mem_map.mp m
    have := h x mx
    rw [List.mem_range]
    omega
  rwa [List.length_map, List.length_range] at this
theorem memL_congr {ps qs : List Pr} (h : ∀ x, x ∈ ps ↔ x ∈ qs) : memL ps = memL qs := funext fun r => funext fun c => by
  unfold memL
  rw [Bool.eq_iff_iff, decide_eq_true_iff, decide_eq_true_iff, h]
def sp_law (K : PySem.W.Frag) : Sp := fun vs H Q _ => ∃ (a : Addr) (ns : List Int), vs = [.ref a] ∧ SqL K H a (ns.map V.int) ∧ ns.length ≤ 63 ∧ ∀ H', Q (.bl true) H'
theorem ok_law (T : Txt K mg) : FnOk P w K mg base CX0 5 T.f_law T.d_law ["script"] (sp_law K) := by
  refine T.F_law.ok sc_law (fun vs H Q E h => ?_) (fun cdv A outer s H vs Q E hr h => ?_)
  · obtain ⟨a, ns, rfl, _⟩ := h
    rfl
  · obtain ⟨a, ns, rfl, hS, hlen, q⟩ := h
    refine ⟨_, (pss_cons (ps_asg (pe_call (ok_law_numbers T) (hr.mono (by decide)) (by rfl) T.g_law_numbers T.F_law_numbers.kp T.b_law_numbers .nil pass0 (pa_cons (pe_call (ok_law_cell T) (hr.mono (by decide)) (by rfl) T.g_law_cell T.F_law_cell.kp T.b_law_cell .nil pass0 (pa_cons (pv 0) (pa_cons pe_int pa_nil))) pa_nil)) (pg_tupK (K := K) (n := 2) rfl rfl (pgs_cons (pg_name (i := 1) sc_law.nd rfl (.inl rfl)) (pgs_cons (pg_name (i := 2) sc_law.nd rfl (.inl rfl)) pgs_nil))))
      (pss_cons (ps_set (i := 3) sc_law.nd rfl (.inl rfl) (pe_make T.M_Rule (ok_Rule_init T) (hr.mono (by decide)) rfl T.g_Rule T.b_Rule_init .nil pass0 (pa_cons (pv 1) (pa_cons (pv 2) pa_nil))))
      (pss_cons (ps_set (i := 4) sc_law.nd rfl (.inl rfl) (pe_call (ok_law_cell T) (hr.mono (by decide)) (by rfl) T.g_law_cell T.F_law_cell.kp T.b_law_cell .nil pass0 (pa_cons (pv 0) (pa_cons pe_int pa_nil))))
      (pss_cons (ps_set (i := 5) sc_law.nd rfl (.inl rfl) (pe_call (ok_law_some T) (hr.mono (by decide)) (by rfl) T.g_law_some T.F_law_some.kp T.b_law_some .nil pass0 (pa_cons (pe_call (ok_law_cell T) (hr.mono (by decide)) (by rfl) T.g_law_cell T.F_law_cell.kp T.b_law_cell .nil pass0 (pa_cons (pv 0) (pa_cons pe_int pa_nil))) (pa_cons (pe_op op_mod (pv 4) pe_int) (pa_cons pe_int (pa_cons pe_int pa_nil))))))
      (pss_cons (ps_set (i := 6) sc_law.nd rfl (.inl rfl) (pe_revL (pe_op op_cat (pv 5) (pe_slice sl_list (pv 5) po_none (po_some (pe_op op_mod (pe_op op_fdiv (pv 4) pe_int) pe_int))))))
      (pss_cons (ps_set (i := 7) sc_law.nd rfl (.inl rfl) (pe_callTy call_listL (by rfl) T.z_list (by decide +kernel) (pa_cons (pv 6) pa_nil)))
      (pss_cons (ps_set (i := 8) sc_law.nd rfl (.inl rfl) (pe_op op_mod (pe_op op_fdiv (pv 4) pe_int) pe_int))
      (pss_cons (ps_set (i := 9) sc_law.nd rfl (.inl rfl) (pv 5))
      (pss_cons (ps_for PassesOwn.never rfl (pi_range1 (by rfl) T.z_range (pa_cons (pv 8) pa_nil)) (pg_name (i := 10) sc_law.nd rfl (.inl rfl))
      (pss_cons (ps_set (i := 11) sc_law.nd rfl (.inl rfl) (pe_call (ok_grown T) (hr.mono (by decide)) (by rfl) T.g_grown T.F_grown.kp T.b_grown .nil pass0 (pa_cons (pv 7) (pa_cons (pv 3) (pa_cons (pv 10) pa_nil)))))
      (pss_cons (ps_if (PW.pt (pw_or (pt_not (pt_val (pe_call (ok_law_cells T) (hr.mono (by decide)) (by rfl) T.g_law_cells T.F_law_cells.kp T.b_law_cells .nil pass0 (pa_cons (pv 11) pa_nil)))) (pw_or1 (pt_cmpR (op_neD hr.units) (pv 11) (pv 9) (nomark _)))))
      (pss_one (ps_ret pe_bl))
      pss_nil)
      (pss_one (ps_set (i := 9) sc_law.nd rfl (.inl rfl) (pe_call (ok_law_next T) (hr.mono (by decide)) (by rfl) T.g_law_next T.F_law_next.kp T.b_law_next .nil pass0 (pa_cons (pv 9) (pa_cons (pv 1) (pa_cons (pv 2) pa_nil)))))))))
      (pss_cons (ps_set (i := 11) sc_law.nd rfl (.inl rfl) (pe_call (ok_grown T) (hr.mono (by decide)) (by rfl) T.g_grown T.F_grown.kp T.b_grown .nil pass0 (pa_cons (pv 7) (pa_cons (pv 3) (pa_cons (pv 8) pa_nil)))))
      (pss_one (ps_ret (pe_and (pe_call (ok_law_cells T) (hr.mono (by decide)) (by rfl) T.g_law_cells T.F_law_cells.kp T.b_law_cells .nil pass0 (pa_cons (pv 11) pa_nil)) (pe_and (pe_cmpR (op_eqD hr.units) (pv 11) (pv 9) (nomark _)) (pe_and (pe_cmpR (op_eqD hr.units) (pv 7) (pv 6) (nomark _)) (pe_one (pe_cmpR (op_eqD hr.units) (pe_call (ok_grown T) (hr.mono (by decide)) (by rfl) T.g_grown T.F_grown.kp T.b_grown .nil pass0 (pa_cons (pv 9) (pa_cons (pv 3) (pa_cons pe_int pa_nil)))) (pe_call (ok_law_next T) (hr.mono (by decide)) (by rfl) T.g_law_next T.F_law_next.kp T.b_law_next .nil pass0 (pa_cons (pv 9) (pa_cons (pv 1) (pa_cons (pv 2) pa_nil)))) (nomark _)))))))))))))))))), ?_⟩
    k_upd
    refine ⟨_, rfl, a, ns, 0, rfl, hS, ?_⟩
    generalize cellOf ns 0 = z0
    refine ⟨z0, rfl, fun H1 p1 pb pss bs ss e1 g1 gb gs' good1 good0 => ?_⟩
    refine ⟨p1, _, rfl, tup_of g1, rfl, _, _, rfl, _, _, rfl, rfl, ?_⟩
    k_upd
    refine ⟨_, rfl, _, rfl, ?_⟩
    intro r dx nx nd nex
    refine ⟨H1, r, pb, pss, dx, bs, ss, rfl, madeS nx nd, nx, upd_same, lst_of gb, lst_of gs', by have := good1.2.2; omega, by have := good0.2.2; omega, fun H2 bs' ss' e2 ra c1 c2 => ⟨rfl, ?_⟩⟩
    have eb : bs' = bs := canon_eq c1 good1.1 fun _ => Iff.rfl
    have es : ss' = ss := canon_eq c2 good0.1 fun _ => Iff.rfl
    subst eb es
    have hb := good1.2.1
    have hss := good0.2.1
    k_upd
    refine ⟨_, rfl, a, ns, 1, rfl, (e1.trans e2).seq hS, ?_⟩
    generalize cellOf ns 1 = first
    k_upd
    have q1 := Int.emod_nonneg first (show (25 : Int) ≠ 0 by decide)
    have q2 := Int.emod_lt_of_pos first (show (0 : Int) < 25 by decide)
    refine ⟨_, rfl, a, ns, 2, rfl, (e1.trans e2).seq hS, _, rfl, _, _, rfl, rfl, (by k_offL), _, _, _, _, rfl, q1, by omega, by decide, by decide, by decide, by decide, fun H3 D ps n3 e3 hC pw lps box => ?_⟩
    k_upd
    have lc : ps.length ≤ 24 := by omega
    obtain ⟨ts, hts, htt, eps⟩ := id hC
    have lts : ts.length ≤ 24 := by
      rw [← eps, List.length_map] at lc
      exact lc
    refine ⟨_, rfl, _, rfl, _, rfl, _, _, rfl, rfl, (by k_offL), _, _, rfl, rfl, (by k_offL), _, rfl, _, _, rfl, lst_of hts, fun p4 n4 => ?_⟩
    rw [cutV_map]
    k_invariant "new" (n4, H4, e4, g4)
    refine ⟨D, p4, _, _, rfl, rfl, e4 _ _ hts, g4, ?_, fun p5 n5 => ?_⟩
    · have := cutT_len ts none (some (first / 25 % 3))
      rw [List.length_map, List.length_map, sizeLine_eq]
      omega
    k_invariant "new" (n5, H5, e5, g5)
    refine ⟨p5, _, rfl, lst_of g5, fun p6 n6 => ?_⟩
    k_invariant "new" (n6, H6, e6, g6)
    k_upd
    refine ⟨_, rfl, p6, _, rfl, lst_of g6, fun p7 n7 => ?_⟩
    k_invariant "new" (n7, H7, e7, g7)
    k_upd
    have hg : ∃ gs : List Pr, Cells H6 p6 gs ∧ Cells H7 p7 gs ∧ (∀ x, x ∈ gs ↔ x ∈ ps) ∧ gs.length < 64 := by
      have us : ∀ t ∈ (ts ++ cutT ts none (some (first / 25 % 3))).reverse, t ∈ ts := fun t m => by
        rcases List.mem_append.mp (List.mem_reverse.mp m) with m | m
        · exact m
        · exact cutT_mem m
      have tt6 : ∀ t ∈ (ts ++ cutT ts none (some (first / 25 % 3))).reverse, H6 t.1 = some (.tup [.int t.2.1, .int t.2.2]) := fun t m => e6 _ _ (e5 _ _ (e4 _ _ (htt t (us t m))))
      refine ⟨((ts ++ cutT ts none (some (first / 25 % 3))).reverse).map (·.2), cells_mk _ ?_ tt6, cells_mk _ ?_ fun t m => e7 _ _ (tt6 t m), fun x => ?_, ?_⟩
      · rw [g6, List.map_reverse, List.map_append]
      · rw [g7, List.map_reverse, List.map_append]
      · rw [← eps, List.mem_map, List.mem_map]
        exact ⟨fun ⟨t, m, e⟩ => ⟨t, us t m, e⟩, fun ⟨t, m, e⟩ => ⟨t, List.mem_reverse.mpr (List.mem_append.mpr (.inl m)), e⟩⟩
      · have := cutT_len ts none (some (first / 25 % 3))
        rw [List.length_map, List.length_reverse, List.length_append]
        omega
    obtain ⟨gs, hH, hG, memg, lg⟩ := hg
    have s37 : Same H3 H7 := e4.trans (e5.trans (e6.trans e7))
    have hH7 := hH.up e7
    have hC7 := hC.up s37
    have s27 : Same H2 H7 := e3.trans s37
    have hR7 := ra.up s27
    have gb7 := s27 _ _ (e2 _ _ gb)
    have gs7 := s27 _ _ (e2 _ _ gs')
    have boxg : ∀ x ∈ gs, (0 : Int) ≤ x.1 ∧ x.1 ≤ 0 + 1000 ∧ 0 ≤ x.2 ∧ x.2 ≤ 0 + 1000 := fun x m => by
      have := box x ((memg x).mp m)
      omega
    have eL : memL gs = memL ps := memL_congr memg
    clear hC hH g1 gb gs' hts htt n4 g4 n5 g5 n6 g6 n7 g7 e4 e5 e6 e7 ra
    have q3 := Int.emod_nonneg (first / 75) (show (9 : Int) ≠ 0 by decide)
    have q4 := Int.emod_lt_of_pos (first / 75) (show (0 : Int) < 9 by decide)
    refine ⟨_, rfl, _, _, rfl, rfl, (by k_offL), _, _, rfl, rfl, (by k_offL), ?_⟩
    obtain ⟨gen, eg⟩ := Int.eq_ofNat_of_zero_le q3
    dsimp only
    rw [eg]
    k_upd
    have lgen : gen ≤ 8 := by omega
    refine ⟨_, rfl, ?_⟩
    k_upd
    have L0 : ∀ r c, memL ps r c = true → (0 : Int) ≤ r ∧ r ≤ 6 ∧ (0 : Int) ≤ c ∧ c ≤ 6 := fun r c z => by
      have := box _ (of_decide_eq_true z)
      dsimp only at this
      omega
    refine ⟨_, rfl, _, rfl, by omega, by omega, for_range (lo := 0) (n := gen) (fun i σ H' => Same H7 H' ∧ ∃ (px : Addr) (es : List Pr) (x10 x11 : Option V), σ = [some (.ref a), some (.ref pb), some (.ref pss), some (.ref r), some (.int first), some (.ref D), some (.ref p6), some (.ref p7), some (.int (gen : Int)), some (.ref px), x10, x11] ∧
        Cells H' px es ∧ es.Pairwise ltP ∧ ∀ x, x ∈ es ↔ genL bs' ss' (memL ps) i x.1 x.2 = true)
      ⟨fun _ _ z => z, D, ps, _, _, rfl, hC7, pw, fun x => decide_eq_true_iff.symm⟩ ?_ ?_⟩
    · rintro i σ H' hi ⟨sm, px, es, x10, x11, rfl, hE, pwE, memE⟩
      have boxE : ∀ x ∈ es, -8 ≤ x.1 ∧ x.1 ≤ 14 ∧ -8 ≤ x.2 ∧ x.2 ≤ 14 := fun x m => by
        have := gen_box hb L0 i x.1 x.2 ((memE x).mp m)
        omega
      have lE := box_len (nodup_lt pwE) boxE
      refine ⟨_, rfl, _, rfl, _, rfl, p7, r, _, gs, bs', ss', 0, 0, rfl, by omega, by omega, hG.up sm, hR7.up sm, hb, hss, by omega, boxg, fun H8 p8 qs e8n e8 h8 pw8 mem8 => ?_⟩
      rw [eL, show (0 + (i : Int)).toNat = i by omega] at mem8
      have same : qs = es := ascP_eq pw8 pwE fun k => (mem8 k).trans (memE k).symm
      subst same
      k_upd
      refine ⟨_, rfl, p8, qs, rfl, h8, pw8, fun H9 e9 => ⟨_, rfl, iteF ?_⟩⟩
      refine ⟨_, rfl, _, rfl, _, _, dp_cells (h8.up e9), dp_cells (hE.up (e8.trans e9)), shaped_cells _, shaped_cells _, _, ne_cells rfl, iteF ?_⟩
      have s9 := sm.trans (e8.trans e9)
      refine ⟨_, rfl, _, rfl, _, rfl, px, pb, pss, qs, bs', ss', rfl, hE.up (e8.trans e9), s9 _ _ gb7, s9 _ _ gs7, hb, by omega, fun H10 p10 es2 n10 e10 h10 pw10 mem10 => ?_⟩
      refine ⟨s9.trans e10, p10, es2, _, _, rfl, h10, pw10, fun x => (mem10 x).trans ?_⟩
      rw [stepL_congr (M := genL bs' ss' (memL ps) i) fun r c => ?_]
      · exact Iff.rfl
      · unfold memL
        rw [Bool.eq_iff_iff, decide_eq_true_iff, memE]
        exact Iff.rfl
    · rintro σ H' ⟨sm, px, es, x10, x11, rfl, hE, pwE, memE⟩
      have boxE : ∀ x ∈ es, -8 ≤ x.1 ∧ x.1 ≤ 14 ∧ -8 ≤ x.2 ∧ x.2 ≤ 14 := fun x m => by
        have := gen_box hb L0 gen x.1 x.2 ((memE x).mp m)
        omega
      have lE := box_len (nodup_lt pwE) boxE
      refine ⟨_, rfl, _, rfl, _, rfl, p7, r, _, gs, bs', ss', 0, 0, rfl, by omega, by omega, hG.up sm, hR7.up sm, hb, hss, by omega, boxg, fun H8 p8 qs e8n e8 h8 pw8 mem8 => ?_⟩
      rw [eL, show ((gen : Nat) : Int).toNat = gen by omega] at mem8
      have same : qs = es := ascP_eq pw8 pwE fun k => (mem8 k).trans (memE k).symm
      subst same
      k_upd
      refine ⟨_, rfl, p8, qs, rfl, h8, pw8, fun H9 e9 => ⟨_, rfl, iteT ?_⟩⟩
      have s9 := sm.trans (e8.trans e9)
      refine ⟨_, rfl, _, rfl, _, _, dp_cells (h8.up e9), dp_cells (hE.up (e8.trans e9)), shaped_cells _, shaped_cells _, _, eq_cells rfl, iteT ?_⟩
      refine ⟨_, rfl, _, rfl, _, _, dp_cells (hG.up s9), dp_cells (hH7.up s9), shaped_cells _, shaped_cells _, _, eq_cells rfl, iteT ?_⟩
      refine ⟨_, rfl, _, rfl, px, r, 1, qs, bs', ss', -8, -8, rfl, by decide, by decide, hE.up (e8.trans e9), hR7.up s9, hb, hss, by omega, fun x m => ?_, fun H10 p10 rs n10 e10 h10 pw10 mem10 => ?_⟩
      · have := boxE x m
        omega
      have s10 := s9.trans e10
      refine ⟨_, rfl, _, rfl, _, rfl, px, pb, pss, qs, bs', ss', rfl, hE.up (e8.trans (e9.trans e10)), s10 _ _ gb7, s10 _ _ gs7, hb, by omega, fun H11 p11 es2 n11 e11 h11 pw11 mem11 => ?_⟩
      refine ⟨_, _, dp_cells (h10.up e11), dp_cells h11, shaped_cells _, shaped_cells _, ?_⟩
      rw [eqv_cells, decide_eq_true (show rs = es2 from ascP_eq pw10 pw11 fun k => (mem10 k).trans (mem11 k).symm)]
      exact q _
end
end My
namespace My
open PySem PySem.Spec PyProof.Rows L2 Vx
theorem all_mk {l : PySem.W.OpenLaw} {w : World} {K : PySem.W.Frag} {h : Heap} {mg : Str → Option Value} {fa : Addr} (X : K.In h) (G : h.Ns mainGlobals mg) (hfa : mg "law" = some (.ref fa))
    {C_Rule : Addr}
    {f_floor_of : Addr} {odfloor_of anfloor_of : Option Addr} {slfloor_of : Array (Option Value)} {ocfloor_of kVfloor_of dcfloor_of pmfloor_of cdfloor_of ctfloor_of : Value}
    {f_cells_of : Addr} {odcells_of ancells_of : Option Addr} {slcells_of : Array (Option Value)} {occells_of kVcells_of dccells_of pmcells_of cdcells_of ctcells_of : Value}
    {f_next_floor : Addr} {odnext_floor annext_floor : Option Addr} {slnext_floor : Array (Option Value)} {ocnext_floor kVnext_floor dcnext_floor pmnext_floor cdnext_floor ctnext_floor : Value}
    {f_row_sums : Addr} {odrow_sums anrow_sums : Option Addr} {slrow_sums : Array (Option Value)} {ocrow_sums kVrow_sums dcrow_sums pmrow_sums cdrow_sums ctrow_sums : Value}
    {f_sums_of : Addr} {odsums_of ansums_of : Option Addr} {slsums_of : Array (Option Value)} {ocsums_of kVsums_of dcsums_of pmsums_of cdsums_of ctsums_of : Value}
    {f_with_strips_beside : Addr} {odwith_strips_beside anwith_strips_beside : Option Addr} {slwith_strips_beside : Array (Option Value)} {ocwith_strips_beside kVwith_strips_beside dcwith_strips_beside pmwith_strips_beside cdwith_strips_beside ctwith_strips_beside : Value}
    {f_with_rows_beside : Addr} {odwith_rows_beside anwith_rows_beside : Option Addr} {slwith_rows_beside : Array (Option Value)} {ocwith_rows_beside kVwith_rows_beside dcwith_rows_beside pmwith_rows_beside cdwith_rows_beside ctwith_rows_beside : Value}
    {f_totals_of : Addr} {odtotals_of antotals_of : Option Addr} {sltotals_of : Array (Option Value)} {octotals_of kVtotals_of dctotals_of pmtotals_of cdtotals_of cttotals_of : Value}
    {f_next_strip : Addr} {odnext_strip annext_strip : Option Addr} {slnext_strip : Array (Option Value)} {ocnext_strip kVnext_strip dcnext_strip pmnext_strip cdnext_strip ctnext_strip : Value}
    {f_grown : Addr} {odgrown angrown : Option Addr} {slgrown : Array (Option Value)} {ocgrown kVgrown dcgrown pmgrown cdgrown ctgrown : Value}
    {f_Rule_init : Addr} {odRule_init anRule_init : Option Addr} {slRule_init : Array (Option Value)} {ocRule_init kVRule_init dcRule_init pmRule_init cdRule_init ctRule_init : Value}
    {f_law_cell : Addr} {odlaw_cell anlaw_cell : Option Addr} {sllaw_cell : Array (Option Value)} {oclaw_cell kVlaw_cell dclaw_cell pmlaw_cell cdlaw_cell ctlaw_cell : Value}
    {f_law_row : Addr} {odlaw_row anlaw_row : Option Addr} {sllaw_row : Array (Option Value)} {oclaw_row kVlaw_row dclaw_row pmlaw_row cdlaw_row ctlaw_row : Value}
    {f_law_integer : Addr} {odlaw_integer anlaw_integer : Option Addr} {sllaw_integer : Array (Option Value)} {oclaw_integer kVlaw_integer dclaw_integer pmlaw_integer cdlaw_integer ctlaw_integer : Value}
    {f_law_cells : Addr} {odlaw_cells anlaw_cells : Option Addr} {sllaw_cells : Array (Option Value)} {oclaw_cells kVlaw_cells dclaw_cells pmlaw_cells cdlaw_cells ctlaw_cells : Value}
    {f_law_numbers : Addr} {odlaw_numbers anlaw_numbers : Option Addr} {sllaw_numbers : Array (Option Value)} {oclaw_numbers kVlaw_numbers dclaw_numbers pmlaw_numbers cdlaw_numbers ctlaw_numbers : Value}
    {f_law_some : Addr} {odlaw_some anlaw_some : Option Addr} {sllaw_some : Array (Option Value)} {oclaw_some kVlaw_some dclaw_some pmlaw_some cdlaw_some ctlaw_some : Value}
    {f_law_next : Addr} {odlaw_next anlaw_next : Option Addr} {sllaw_next : Array (Option Value)} {oclaw_next kVlaw_next dclaw_next pmlaw_next cdlaw_next ctlaw_next : Value}
    {f_law : Addr} {odlaw anlaw : Option Addr} {sllaw : Array (Option Value)} {oclaw kVlaw dclaw pmlaw cdlaw ctlaw : Value}
    {uWIDTH : Tok}
    (aCRule : PySem.W.nsIn K mainGlobals "Rule" = some (some (.ref C_Rule)))
    (pgRule : PySem.W.plainGet K C_Rule Str.empty = true)
    (hdRule : PySem.W.hasDictIn K C_Rule = true)
    (poRule : PySem.W.plainOver K C_Rule = true)
    (saRule : PySem.W.findIn K (.ref C_Rule) "__setattr__" = some (some (.builtin "object.__setattr__")))
    (mkRule : PySem.W.makesIn K C_Rule = true)
    (kcRule : PySem.W.keepIn K (.ref C_Rule) = true)
    (nRulebirths : PySem.W.findIn K (.ref C_Rule) "births" = some none)
    (nRulesurvival : PySem.W.findIn K (.ref C_Rule) "survival" = some none)
    (afloor_of : PySem.W.nsIn K mainGlobals "floor_of" = some (some (.ref f_floor_of)))
    (lfloor_of : K.lookup f_floor_of = some ⟨ocfloor_of, odfloor_of, .func (PySem.W.fnOf "floor_of" "floor_of" (defArgs s_floor_of) (defBody s_floor_of) (defScope s_floor_of) .none kVfloor_of dcfloor_of pmfloor_of anfloor_of cdfloor_of ctfloor_of), slfloor_of⟩)
    (cfloor_of : PySem.W.codeIn K cdfloor_of "floor_of" = true)
    (kfloor_of : PySem.W.keepIn K (.ref f_floor_of) = true)
    (acells_of : PySem.W.nsIn K mainGlobals "cells_of" = some (some (.ref f_cells_of)))
    (lcells_of : K.lookup f_cells_of = some ⟨occells_of, odcells_of, .func (PySem.W.fnOf "cells_of" "cells_of" (defArgs s_cells_of) (defBody s_cells_of) (defScope s_cells_of) .none kVcells_of dccells_of pmcells_of ancells_of cdcells_of ctcells_of), slcells_of⟩)
    (ccells_of : PySem.W.codeIn K cdcells_of "cells_of" = true)
    (kcells_of : PySem.W.keepIn K (.ref f_cells_of) = true)
    (anext_floor : PySem.W.nsIn K mainGlobals "next_floor" = some (some (.ref f_next_floor)))
    (lnext_floor : K.lookup f_next_floor = some ⟨ocnext_floor, odnext_floor, .func (PySem.W.fnOf "next_floor" "next_floor" (defArgs s_next_floor) (defBody s_next_floor) (defScope s_next_floor) .none kVnext_floor dcnext_floor pmnext_floor annext_floor cdnext_floor ctnext_floor), slnext_floor⟩)
    (cnext_floor : PySem.W.codeIn K cdnext_floor "next_floor" = true)
    (knext_floor : PySem.W.keepIn K (.ref f_next_floor) = true)
    (arow_sums : PySem.W.nsIn K mainGlobals "_row_sums" = some (some (.ref f_row_sums)))
    (lrow_sums : K.lookup f_row_sums = some ⟨ocrow_sums, odrow_sums, .func (PySem.W.fnOf "_row_sums" "_row_sums" (defArgs s_row_sums) (defBody s_row_sums) (defScope s_row_sums) .none kVrow_sums dcrow_sums pmrow_sums anrow_sums cdrow_sums ctrow_sums), slrow_sums⟩)
    (crow_sums : PySem.W.codeIn K cdrow_sums "_row_sums" = true)
    (krow_sums : PySem.W.keepIn K (.ref f_row_sums) = true)
    (asums_of : PySem.W.nsIn K mainGlobals "sums_of" = some (some (.ref f_sums_of)))
    (lsums_of : K.lookup f_sums_of = some ⟨ocsums_of, odsums_of, .func (PySem.W.fnOf "sums_of" "sums_of" (defArgs s_sums_of) (defBody s_sums_of) (defScope s_sums_of) .none kVsums_of dcsums_of pmsums_of ansums_of cdsums_of ctsums_of), slsums_of⟩)
    (csums_of : PySem.W.codeIn K cdsums_of "sums_of" = true)
    (ksums_of : PySem.W.keepIn K (.ref f_sums_of) = true)
    (awith_strips_beside : PySem.W.nsIn K mainGlobals "_with_strips_beside" = some (some (.ref f_with_strips_beside)))
    (lwith_strips_beside : K.lookup f_with_strips_beside = some ⟨ocwith_strips_beside, odwith_strips_beside, .func (PySem.W.fnOf "_with_strips_beside" "_with_strips_beside" (defArgs s_with_strips_beside) (defBody s_with_strips_beside) (defScope s_with_strips_beside) .none kVwith_strips_beside dcwith_strips_beside pmwith_strips_beside anwith_strips_beside cdwith_strips_beside ctwith_strips_beside), slwith_strips_beside⟩)
    (cwith_strips_beside : PySem.W.codeIn K cdwith_strips_beside "_with_strips_beside" = true)
    (kwith_strips_beside : PySem.W.keepIn K (.ref f_with_strips_beside) = true)
    (awith_rows_beside : PySem.W.nsIn K mainGlobals "_with_rows_beside" = some (some (.ref f_with_rows_beside)))
    (lwith_rows_beside : K.lookup f_with_rows_beside = some ⟨ocwith_rows_beside, odwith_rows_beside, .func (PySem.W.fnOf "_with_rows_beside" "_with_rows_beside" (defArgs s_with_rows_beside) (defBody s_with_rows_beside) (defScope s_with_rows_beside) .none kVwith_rows_beside dcwith_rows_beside pmwith_rows_beside anwith_rows_beside cdwith_rows_beside ctwith_rows_beside), slwith_rows_beside⟩)
    (cwith_rows_beside : PySem.W.codeIn K cdwith_rows_beside "_with_rows_beside" = true)
    (kwith_rows_beside : PySem.W.keepIn K (.ref f_with_rows_beside) = true)
    (atotals_of : PySem.W.nsIn K mainGlobals "totals_of" = some (some (.ref f_totals_of)))
    (ltotals_of : K.lookup f_totals_of = some ⟨octotals_of, odtotals_of, .func (PySem.W.fnOf "totals_of" "totals_of" (defArgs s_totals_of) (defBody s_totals_of) (defScope s_totals_of) .none kVtotals_of dctotals_of pmtotals_of antotals_of cdtotals_of cttotals_of), sltotals_of⟩)
    (ctotals_of : PySem.W.codeIn K cdtotals_of "totals_of" = true)
    (ktotals_of : PySem.W.keepIn K (.ref f_totals_of) = true)
    (anext_strip : PySem.W.nsIn K mainGlobals "next_strip" = some (some (.ref f_next_strip)))
    (lnext_strip : K.lookup f_next_strip = some ⟨ocnext_strip, odnext_strip, .func (PySem.W.fnOf "next_strip" "next_strip" (defArgs s_next_strip) (defBody s_next_strip) (defScope s_next_strip) .none kVnext_strip dcnext_strip pmnext_strip annext_strip cdnext_strip ctnext_strip), slnext_strip⟩)
    (cnext_strip : PySem.W.codeIn K cdnext_strip "next_strip" = true)
    (knext_strip : PySem.W.keepIn K (.ref f_next_strip) = true)
    (agrown : PySem.W.nsIn K mainGlobals "grown" = some (some (.ref f_grown)))
    (lgrown : K.lookup f_grown = some ⟨ocgrown, odgrown, .func (PySem.W.fnOf "grown" "grown" (defArgs s_grown) (defBody s_grown) (defScope s_grown) .none kVgrown dcgrown pmgrown angrown cdgrown ctgrown), slgrown⟩)
    (cgrown : PySem.W.codeIn K cdgrown "grown" = true)
    (kgrown : PySem.W.keepIn K (.ref f_grown) = true)
    (aRule_init : PySem.W.findIn K (.ref C_Rule) "__init__" = some (some (.ref f_Rule_init)))
    (iRule_init : PySem.W.isFn K (.ref f_Rule_init) = true)
    (lRule_init : K.lookup f_Rule_init = some ⟨ocRule_init, odRule_init, .func (PySem.W.fnOf "__init__" "Rule.__init__" (defArgs s_Rule_init) (defBody s_Rule_init) (defScope s_Rule_init) .none kVRule_init dcRule_init pmRule_init anRule_init cdRule_init ctRule_init), slRule_init⟩)
    (cRule_init : PySem.W.codeIn K cdRule_init "Rule.__init__" = true)
    (kRule_init : PySem.W.keepIn K (.ref f_Rule_init) = true)
    (alaw_cell : PySem.W.nsIn K mainGlobals "_law_cell" = some (some (.ref f_law_cell)))
    (llaw_cell : K.lookup f_law_cell = some ⟨oclaw_cell, odlaw_cell, .func (PySem.W.fnOf "_law_cell" "_law_cell" (defArgs s_law_cell) (defBody s_law_cell) (defScope s_law_cell) .none kVlaw_cell dclaw_cell pmlaw_cell anlaw_cell cdlaw_cell ctlaw_cell), sllaw_cell⟩)
    (claw_cell : PySem.W.codeIn K cdlaw_cell "_law_cell" = true)
    (klaw_cell : PySem.W.keepIn K (.ref f_law_cell) = true)
    (alaw_row : PySem.W.nsIn K mainGlobals "_law_row" = some (some (.ref f_law_row)))
    (llaw_row : K.lookup f_law_row = some ⟨oclaw_row, odlaw_row, .func (PySem.W.fnOf "_law_row" "_law_row" (defArgs s_law_row) (defBody s_law_row) (defScope s_law_row) .none kVlaw_row dclaw_row pmlaw_row anlaw_row cdlaw_row ctlaw_row), sllaw_row⟩)
    (claw_row : PySem.W.codeIn K cdlaw_row "_law_row" = true)
    (klaw_row : PySem.W.keepIn K (.ref f_law_row) = true)
    (alaw_integer : PySem.W.nsIn K mainGlobals "_law_integer" = some (some (.ref f_law_integer)))
    (llaw_integer : K.lookup f_law_integer = some ⟨oclaw_integer, odlaw_integer, .func (PySem.W.fnOf "_law_integer" "_law_integer" (defArgs s_law_integer) (defBody s_law_integer) (defScope s_law_integer) .none kVlaw_integer dclaw_integer pmlaw_integer anlaw_integer cdlaw_integer ctlaw_integer), sllaw_integer⟩)
    (claw_integer : PySem.W.codeIn K cdlaw_integer "_law_integer" = true)
    (klaw_integer : PySem.W.keepIn K (.ref f_law_integer) = true)
    (alaw_cells : PySem.W.nsIn K mainGlobals "_law_cells" = some (some (.ref f_law_cells)))
    (llaw_cells : K.lookup f_law_cells = some ⟨oclaw_cells, odlaw_cells, .func (PySem.W.fnOf "_law_cells" "_law_cells" (defArgs s_law_cells) (defBody s_law_cells) (defScope s_law_cells) .none kVlaw_cells dclaw_cells pmlaw_cells anlaw_cells cdlaw_cells ctlaw_cells), sllaw_cells⟩)
    (claw_cells : PySem.W.codeIn K cdlaw_cells "_law_cells" = true)
    (klaw_cells : PySem.W.keepIn K (.ref f_law_cells) = true)
    (alaw_numbers : PySem.W.nsIn K mainGlobals "_law_numbers" = some (some (.ref f_law_numbers)))
    (llaw_numbers : K.lookup f_law_numbers = some ⟨oclaw_numbers, odlaw_numbers, .func (PySem.W.fnOf "_law_numbers" "_law_numbers" (defArgs s_law_numbers) (defBody s_law_numbers) (defScope s_law_numbers) .none kVlaw_numbers dclaw_numbers pmlaw_numbers anlaw_numbers cdlaw_numbers ctlaw_numbers), sllaw_numbers⟩)
    (claw_numbers : PySem.W.codeIn K cdlaw_numbers "_law_numbers" = true)
    (klaw_numbers : PySem.W.keepIn K (.ref f_law_numbers) = true)
    (alaw_some : PySem.W.nsIn K mainGlobals "_law_some" = some (some (.ref f_law_some)))
    (llaw_some : K.lookup f_law_some = some ⟨oclaw_some, odlaw_some, .func (PySem.W.fnOf "_law_some" "_law_some" (defArgs s_law_some) (defBody s_law_some) (defScope s_law_some) .none kVlaw_some dclaw_some pmlaw_some anlaw_some cdlaw_some ctlaw_some), sllaw_some⟩)
    (claw_some : PySem.W.codeIn K cdlaw_some "_law_some" = true)
    (klaw_some : PySem.W.keepIn K (.ref f_law_some) = true)
    (alaw_next : PySem.W.nsIn K mainGlobals "_law_next" = some (some (.ref f_law_next)))
    (llaw_next : K.lookup f_law_next = some ⟨oclaw_next, odlaw_next, .func (PySem.W.fnOf "_law_next" "_law_next" (defArgs s_law_next) (defBody s_law_next) (defScope s_law_next) .none kVlaw_next dclaw_next pmlaw_next anlaw_next cdlaw_next ctlaw_next), sllaw_next⟩)
    (claw_next : PySem.W.codeIn K cdlaw_next "_law_next" = true)
    (klaw_next : PySem.W.keepIn K (.ref f_law_next) = true)
    (alaw : PySem.W.nsIn K mainGlobals "law" = some (some (.ref f_law)))
    (llaw : K.lookup f_law = some ⟨oclaw, odlaw, .func (PySem.W.fnOf "law" "law" (defArgs s_law) (defBody s_law) (defScope s_law) .none kVlaw dclaw pmlaw anlaw cdlaw ctlaw), sllaw⟩)
    (claw : PySem.W.codeIn K cdlaw "law" = true)
    (klaw : PySem.W.keepIn K (.ref f_law) = true)
    (zdivmod : PySem.W.nsIn K mainGlobals "divmod" = some none)
    (zsorted : PySem.W.nsIn K mainGlobals "sorted" = some none)
    (zlist : PySem.W.nsIn K mainGlobals "list" = some none)
    (zrange : PySem.W.nsIn K mainGlobals "range" = some none)
    (zmin : PySem.W.nsIn K mainGlobals "min" = some none)
    (ztuple : PySem.W.nsIn K mainGlobals "tuple" = some none)
    (zset : PySem.W.nsIn K mainGlobals "set" = some none)
    (zlen : PySem.W.nsIn K mainGlobals "len" = some none)
    (zint : PySem.W.nsIn K mainGlobals "int" = some none)
    (zabs : PySem.W.nsIn K mainGlobals "abs" = some none)
    (zisinstance : PySem.W.nsIn K mainGlobals "isinstance" = some none)
    (zbool : PySem.W.nsIn K mainGlobals "bool" = some none)
    (xWIDTH : PySem.W.nsIn K mainGlobals "WIDTH" = some (some (.int (2048) uWIDTH))) :
    ∃ fd : FuncData, (∀ (s : Shared) (v : Value), BindsTo s fd ⟨[v], []⟩ [("script", v)]) ∧ ∀ base : Heap, K.In base → base.Ns mainGlobals mg → FnOk l.prog w K mg base CX0 5 fa fd ["script"] (sp_law K) := by
  have e := hfa.symm.trans (PySem.W.mg_of X G alaw)
  cases e
  have F_floor_of := fun_mk (st := s_floor_of) lfloor_of cfloor_of kfloor_of
  have b_floor_of := F_floor_of.binds (ps := ["cells", "first"]) fun _ _ _ _ _ _ us hl => match us, hl with | [_, _], _ => rfl
  have F_cells_of := fun_mk (st := s_cells_of) lcells_of ccells_of kcells_of
  have b_cells_of := F_cells_of.binds (ps := ["floor", "first"]) fun _ _ _ _ _ _ us hl => match us, hl with | [_, _], _ => rfl
  have F_next_floor := fun_mk (st := s_next_floor) lnext_floor cnext_floor knext_floor
  have b_next_floor := F_next_floor.binds (ps := ["floor", "rule"]) fun _ _ _ _ _ _ us hl => match us, hl with | [_, _], _ => rfl
  have F_row_sums := fun_mk (st := s_row_sums) lrow_sums crow_sums krow_sums
  have b_row_sums := F_row_sums.binds (ps := ["floor"]) fun _ _ _ _ _ _ us hl => match us, hl with | [_], _ => rfl
  have F_sums_of := fun_mk (st := s_sums_of) lsums_of csums_of ksums_of
  have b_sums_of := F_sums_of.binds (ps := ["left", "alive", "right"]) fun _ _ _ _ _ _ us hl => match us, hl with | [_, _, _], _ => rfl
  have F_with_strips_beside := fun_mk (st := s_with_strips_beside) lwith_strips_beside cwith_strips_beside kwith_strips_beside
  have b_with_strips_beside := F_with_strips_beside.binds (ps := ["floor"]) fun _ _ _ _ _ _ us hl => match us, hl with | [_], _ => rfl
  have F_with_rows_beside := fun_mk (st := s_with_rows_beside) lwith_rows_beside cwith_rows_beside kwith_rows_beside
  have b_with_rows_beside := F_with_rows_beside.binds (ps := ["sums"]) fun _ _ _ _ _ _ us hl => match us, hl with | [_], _ => rfl
  have F_totals_of := fun_mk (st := s_totals_of) ltotals_of ctotals_of ktotals_of
  have b_totals_of := F_totals_of.binds (ps := ["above", "here", "below"]) fun _ _ _ _ _ _ us hl => match us, hl with | [_, _, _], _ => rfl
  have F_next_strip := fun_mk (st := s_next_strip) lnext_strip cnext_strip knext_strip
  have b_next_strip := F_next_strip.binds (ps := ["alive", "totals", "rule"]) fun _ _ _ _ _ _ us hl => match us, hl with | [_, _, _], _ => rfl
  have F_grown := fun_mk (st := s_grown) lgrown cgrown kgrown
  have b_grown := F_grown.binds (ps := ["cells", "rule", "generations"]) fun _ _ _ _ _ _ us hl => match us, hl with | [_, _, _], _ => rfl
  have F_Rule_init := fun_mk (st := s_Rule_init) lRule_init cRule_init kRule_init
  have b_Rule_init := F_Rule_init.binds (ps := ["self", "births", "survival"]) fun _ _ _ _ _ _ us hl => match us, hl with | [_, _, _], _ => rfl
  have F_law_cell := fun_mk (st := s_law_cell) llaw_cell claw_cell klaw_cell
  have b_law_cell := F_law_cell.binds (ps := ["script", "k"]) fun _ _ _ _ _ _ us hl => match us, hl with | [_, _], _ => rfl
  have F_law_row := fun_mk (st := s_law_row) llaw_row claw_row klaw_row
  have b_law_row := F_law_row.binds (ps := ["cell", "count", "bound"]) fun _ _ _ _ _ _ us hl => match us, hl with | [_, _, _], _ => rfl
  have F_law_integer := fun_mk (st := s_law_integer) llaw_integer claw_integer klaw_integer
  have b_law_integer := F_law_integer.binds (ps := ["value"]) fun _ _ _ _ _ _ us hl => match us, hl with | [_], _ => rfl
  have F_law_cells := fun_mk (st := s_law_cells) llaw_cells claw_cells klaw_cells
  have b_law_cells := F_law_cells.binds (ps := ["value"]) fun _ _ _ _ _ _ us hl => match us, hl with | [_], _ => rfl
  have F_law_numbers := fun_mk (st := s_law_numbers) llaw_numbers claw_numbers klaw_numbers
  have b_law_numbers := F_law_numbers.binds (ps := ["cell"]) fun _ _ _ _ _ _ us hl => match us, hl with | [_], _ => rfl
  have F_law_some := fun_mk (st := s_law_some) llaw_some claw_some klaw_some
  have b_law_some := F_law_some.binds (ps := ["cell", "count", "height", "width"]) fun _ _ _ _ _ _ us hl => match us, hl with | [_, _, _, _], _ => rfl
  have F_law_next := fun_mk (st := s_law_next) llaw_next claw_next klaw_next
  have b_law_next := F_law_next.binds (ps := ["cells", "births", "survival"]) fun _ _ _ _ _ _ us hl => match us, hl with | [_, _, _], _ => rfl
  have F_law := fun_mk (st := s_law) llaw claw klaw
  have b_law := F_law.binds (ps := ["script"]) fun _ _ _ _ _ _ us hl => match us, hl with | [_], _ => rfl
  let T : Txt K mg := {
    C_Rule := C_Rule,
    g_Rule := PySem.W.mg_of X G aCRule,
    cl_Rule := ⟨pgRule, hdRule, poRule, saRule⟩,
    na_Rule_births := nRulebirths,
    na_Rule_survival := nRulesurvival,
    f_floor_of := f_floor_of,
    d_floor_of := _,
    F_floor_of := F_floor_of,
    b_floor_of := b_floor_of,
    g_floor_of := PySem.W.mg_of X G afloor_of,
    f_cells_of := f_cells_of,
    d_cells_of := _,
    F_cells_of := F_cells_of,
    b_cells_of := b_cells_of,
    g_cells_of := PySem.W.mg_of X G acells_of,
    f_next_floor := f_next_floor,
    d_next_floor := _,
    F_next_floor := F_next_floor,
    b_next_floor := b_next_floor,
    g_next_floor := PySem.W.mg_of X G anext_floor,
    f_row_sums := f_row_sums,
    d_row_sums := _,
    F_row_sums := F_row_sums,
    b_row_sums := b_row_sums,
    g_row_sums := PySem.W.mg_of X G arow_sums,
    f_sums_of := f_sums_of,
    d_sums_of := _,
    F_sums_of := F_sums_of,
    b_sums_of := b_sums_of,
    g_sums_of := PySem.W.mg_of X G asums_of,
    f_with_strips_beside := f_with_strips_beside,
    d_with_strips_beside := _,
    F_with_strips_beside := F_with_strips_beside,
    b_with_strips_beside := b_with_strips_beside,
    g_with_strips_beside := PySem.W.mg_of X G awith_strips_beside,
    f_with_rows_beside := f_with_rows_beside,
    d_with_rows_beside := _,
    F_with_rows_beside := F_with_rows_beside,
    b_with_rows_beside := b_with_rows_beside,
    g_with_rows_beside := PySem.W.mg_of X G awith_rows_beside,
    f_totals_of := f_totals_of,
    d_totals_of := _,
    F_totals_of := F_totals_of,
    b_totals_of := b_totals_of,
    g_totals_of := PySem.W.mg_of X G atotals_of,
    f_next_strip := f_next_strip,
    d_next_strip := _,
    F_next_strip := F_next_strip,
    b_next_strip := b_next_strip,
    g_next_strip := PySem.W.mg_of X G anext_strip,
    f_grown := f_grown,
    d_grown := _,
    F_grown := F_grown,
    b_grown := b_grown,
    g_grown := PySem.W.mg_of X G agrown,
    f_Rule_init := f_Rule_init,
    d_Rule_init := _,
    F_Rule_init := F_Rule_init,
    b_Rule_init := b_Rule_init,
    M_Rule := ⟨mkRule, aRule_init, iRule_init, kcRule⟩,
    f_law_cell := f_law_cell,
    d_law_cell := _,
    F_law_cell := F_law_cell,
    b_law_cell := b_law_cell,
    g_law_cell := PySem.W.mg_of X G alaw_cell,
    f_law_row := f_law_row,
    d_law_row := _,
    F_law_row := F_law_row,
    b_law_row := b_law_row,
    g_law_row := PySem.W.mg_of X G alaw_row,
    f_law_integer := f_law_integer,
    d_law_integer := _,
    F_law_integer := F_law_integer,
    b_law_integer := b_law_integer,
    g_law_integer := PySem.W.mg_of X G alaw_integer,
    f_law_cells := f_law_cells,
    d_law_cells := _,
    F_law_cells := F_law_cells,
    b_law_cells := b_law_cells,
    g_law_cells := PySem.W.mg_of X G alaw_cells,
    f_law_numbers := f_law_numbers,
    d_law_numbers := _,
    F_law_numbers := F_law_numbers,
    b_law_numbers := b_law_numbers,
    g_law_numbers := PySem.W.mg_of X G alaw_numbers,
    f_law_some := f_law_some,
    d_law_some := _,
    F_law_some := F_law_some,
    b_law_some := b_law_some,
    g_law_some := PySem.W.mg_of X G alaw_some,
    f_law_next := f_law_next,
    d_law_next := _,
    F_law_next := F_law_next,
    b_law_next := b_law_next,
    g_law_next := PySem.W.mg_of X G alaw_next,
    f_law := fa,
    d_law := _,
    F_law := F_law,
    b_law := b_law,
    g_law := PySem.W.mg_of X G alaw,
    z_divmod := PySem.W.mg_none_of X G zdivmod,
    z_sorted := PySem.W.mg_none_of X G zsorted,
    z_list := PySem.W.mg_none_of X G zlist,
    z_range := PySem.W.mg_none_of X G zrange,
    z_min := PySem.W.mg_none_of X G zmin,
    z_tuple := PySem.W.mg_none_of X G ztuple,
    z_set := PySem.W.mg_none_of X G zset,
    z_len := PySem.W.mg_none_of X G zlen,
    z_int := PySem.W.mg_none_of X G zint,
    z_abs := PySem.W.mg_none_of X G zabs,
    z_isinstance := PySem.W.mg_none_of X G zisinstance,
    z_bool := PySem.W.mg_none_of X G zbool,
    c_WIDTH := ⟨_, PySem.W.mg_of X G xWIDTH, ⟨_, rfl⟩⟩ }
  exact ⟨_, fun s v => .of_eq rfl, fun base _ _ => ok_law T⟩
end My
open PySem PySem.W PyProof.Rows
set_option maxHeartbeats 0 in
theorem PySem.Challenge.cw_longlife_k04_generations_of_patterns_holds : PySem.Challenge.rw_longlife_k04_generations_of_patterns.Holds := by
  w_on; o_law; k_head; (case hw => w_witness2)
  k_fill
  refine L2.walk_of (l := PySem.Challenge.rw_longlife_k04_generations_of_patterns) (n := 63) (k := 5) (x := "script") (CX := fun _ => L2.CX0) (sp := fun w => My.sp_law _) rfl (by decide) rfl ⟨rfl, by decide, by decide⟩ (fun w h Y => PySem.W.kIn_of Y) ?F (fun _ _ a ns hl _ hS => ⟨a, ns, rfl, hS, hl, fun _ => rfl⟩) (fun _ _ _ _ _ h => h)
  case F =>
    intro w mg fa h KX G hmg
    refine' My.all_mk KX G hmg ?aCRule ?pgRule ?hdRule ?poRule ?saRule ?mkRule ?kcRule ?nRulebirths ?nRulesurvival ?afloor_of ?lfloor_of ?cfloor_of ?kfloor_of ?acells_of ?lcells_of ?ccells_of ?kcells_of ?anext_floor ?lnext_floor ?cnext_floor ?knext_floor ?arow_sums ?lrow_sums ?crow_sums ?krow_sums ?asums_of ?lsums_of ?csums_of ?ksums_of ?awith_strips_beside ?lwith_strips_beside ?cwith_strips_beside ?kwith_strips_beside ?awith_rows_beside ?lwith_rows_beside ?cwith_rows_beside ?kwith_rows_beside ?atotals_of ?ltotals_of ?ctotals_of ?ktotals_of ?anext_strip ?lnext_strip ?cnext_strip ?knext_strip ?agrown ?lgrown ?cgrown ?kgrown ?aRule_init ?iRule_init ?lRule_init ?cRule_init ?kRule_init ?alaw_cell ?llaw_cell ?claw_cell ?klaw_cell ?alaw_row ?llaw_row ?claw_row ?klaw_row ?alaw_integer ?llaw_integer ?claw_integer ?klaw_integer ?alaw_cells ?llaw_cells ?claw_cells ?klaw_cells ?alaw_numbers ?llaw_numbers ?claw_numbers ?klaw_numbers ?alaw_some ?llaw_some ?claw_some ?klaw_some ?alaw_next ?llaw_next ?claw_next ?klaw_next ?alaw ?llaw ?claw ?klaw ?zdivmod ?zsorted ?zlist ?zrange ?zmin ?ztuple ?zset ?zlen ?zint ?zabs ?zisinstance ?zbool ?xWIDTH
    (case aCRule => k_is)
    (case pgRule => k_is)
    (case hdRule => k_is)
    (case poRule => k_is)
    (case saRule => k_is)
    (case mkRule => k_is)
    (case kcRule => k_is)
    (case nRulebirths => k_is)
    (case nRulesurvival => k_is)
    (case afloor_of => k_is)
    (case lfloor_of => k_is)
    (case cfloor_of => k_is)
    (case kfloor_of => k_is)
    (case acells_of => k_is)
    (case lcells_of => k_is)
    (case ccells_of => k_is)
    (case kcells_of => k_is)
    (case anext_floor => k_is)
    (case lnext_floor => k_is)
    (case cnext_floor => k_is)
    (case knext_floor => k_is)
    (case arow_sums => k_is)
    (case lrow_sums => k_is)
    (case crow_sums => k_is)
    (case krow_sums => k_is)
    (case asums_of => k_is)
    (case lsums_of => k_is)
    (case csums_of => k_is)
    (case ksums_of => k_is)
    (case awith_strips_beside => k_is)
    (case lwith_strips_beside => k_is)
    (case cwith_strips_beside => k_is)
    (case kwith_strips_beside => k_is)
    (case awith_rows_beside => k_is)
    (case lwith_rows_beside => k_is)
    (case cwith_rows_beside => k_is)
    (case kwith_rows_beside => k_is)
    (case atotals_of => k_is)
    (case ltotals_of => k_is)
    (case ctotals_of => k_is)
    (case ktotals_of => k_is)
    (case anext_strip => k_is)
    (case lnext_strip => k_is)
    (case cnext_strip => k_is)
    (case knext_strip => k_is)
    (case agrown => k_is)
    (case lgrown => k_is)
    (case cgrown => k_is)
    (case kgrown => k_is)
    (case aRule_init => k_is)
    (case iRule_init => k_is)
    (case lRule_init => k_is)
    (case cRule_init => k_is)
    (case kRule_init => k_is)
    (case alaw_cell => k_is)
    (case llaw_cell => k_is)
    (case claw_cell => k_is)
    (case klaw_cell => k_is)
    (case alaw_row => k_is)
    (case llaw_row => k_is)
    (case claw_row => k_is)
    (case klaw_row => k_is)
    (case alaw_integer => k_is)
    (case llaw_integer => k_is)
    (case claw_integer => k_is)
    (case klaw_integer => k_is)
    (case alaw_cells => k_is)
    (case llaw_cells => k_is)
    (case claw_cells => k_is)
    (case klaw_cells => k_is)
    (case alaw_numbers => k_is)
    (case llaw_numbers => k_is)
    (case claw_numbers => k_is)
    (case klaw_numbers => k_is)
    (case alaw_some => k_is)
    (case llaw_some => k_is)
    (case claw_some => k_is)
    (case klaw_some => k_is)
    (case alaw_next => k_is)
    (case llaw_next => k_is)
    (case claw_next => k_is)
    (case klaw_next => k_is)
    (case alaw => k_is)
    (case llaw => k_is)
    (case claw => k_is)
    (case klaw => k_is)
    (case zdivmod => k_is)
    (case zsorted => k_is)
    (case zlist => k_is)
    (case zrange => k_is)
    (case zmin => k_is)
    (case ztuple => k_is)
    (case zset => k_is)
    (case zlen => k_is)
    (case zint => k_is)
    (case zabs => k_is)
    (case zisinstance => k_is)
    (case zbool => k_is)
    (case xWIDTH => k_is)
