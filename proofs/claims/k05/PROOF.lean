import PyProof.Rows.All
import Wide.All
import OpenK.AllK
import Wide.FinOn
import HandS.ForMost
import HandS.Strs
import HandS.SetFor
import HandS.OwnEq
import HandS.SlotsOwn
import HandS.IsInst
import HandS.Wide
import HandS.Style
import HandS.Steps
import HandS.ExcInit
import HandS.ExcSuper
import KE.KExcSuper
import KE.KExcIs
import HandS.ExcIs
import HandS.ExcField
import HandS.Walk
import HandS.TupSets
import HandS.SortRule
import PyProof.Rows.AssignMoreSeq
import HandS.NoneIn
import HandS.Deep
import PyProof.Rows.RegStrFacts
import HandS.DictTup
import HandS.Conv
import HandS.WideBits
import KE.OsArith
import PyProof.Rows.StrIntSpec
import KE.KxField
import HandS.FStr
import PyProof.Rows.RegReprOcc
import HandS.DictComp
import KE.GoesEnum
import KE.GoesMore
import HandS.Exc
import HandS.TryOnly
import HandS.ExcOwn
import HandS.WordsExc
import HandS.RaiseMore
import KE.DataMinMax
import KE.DataFind
import HandS.Comp
import KE.KDictWalk
import HandS.TupLen
import HandS.SortKw
import HandS.Gcd
import KE.KMathGC
import KE.SortData
import HandS.Flow
import PySem.Challenge.RW_longlife_k05_pictures_and_their_faults
set_option Elab.async false
set_option linter.all false
set_option maxRecDepth 100000
set_option maxHeartbeats 4000000
namespace Vx
open PySem PySem.Spec PyProof.Rows L2
/-! ### heaps that grow -/
theorem newS {H : Hp} {p : Addr} {o : HO} (n : H p = none) : Same H (upd H p o) := fun b x e => by
  rw [upd_ne (ne_of_none e n)]
  exact e
theorem mutS {H H' : Hp} {p : Addr} {o : HO} (e : Same H H') (n : H p = none) : Same H (upd H' p o) := fun b x hb => by
  rw [upd_ne (ne_of_none hb n)]
  exact e b x hb
theorem getS {H H' : Hp} {a : Addr} {o : HO} (e : Same H H') (h : H a = some o) : H' a = some o := e a o h
theorem tupS {K : PySem.W.Frag} {H H' : Hp} {a : Addr} {xs : List V} (e : Same H H') (h : SqT K H a xs) : SqT K H' a xs := by
  rcases h with (h | ⟨o, h⟩) | h
  · exact .inl (.inl (e _ _ h))
  · exact .inl (.inr ⟨o, e _ _ h⟩)
  · exact .inr h
theorem lst_of {K : PySem.W.Frag} {H : Hp} {a : Addr} {xs : List V} (h : H a = some (.lst xs)) : SqL K H a xs := .inl (.inl h)
theorem tup_of {K : PySem.W.Frag} {H : Hp} {a : Addr} {xs : List V} (h : H a = some (.tup xs)) : SqT K H a xs := .inl (.inl h)
theorem neS {H H' : Hp} {a p : Addr} {o : HO} (h : H a = some o) (e : Same H H') (n : H' p = none) : a ≠ p := ne_of_none (e a o h) n
theorem backS {H H' : Hp} {p : Addr} (e : Same H H') (n : H' p = none) : H p = none := Same.free e n
theorem gen_e {H H1 : Hp} {p : Addr} {o : HO} (q : upd H p o = H1) (n : H p = none) : Same H H1 ∧ H1 p = some o := by
  subst q
  exact ⟨newS n, upd_same⟩
/-! ### calls of built-ins, one way each -/
section
variable {X : Cx}
theorem call_intI : CallR X (.type "int") (fun xs H Q => ∃ i, xs = [.int i] ∧ Q (.int i) H) := fun pins s σ H xs us Q I r h => call_int1 pins s σ H xs us Q I r (.inl h)
theorem call_tupL : CallR X (.type "tuple") (fun xs H Q => ∃ p ys, xs = [.ref p] ∧ SqL X.K H p ys ∧ ∀ l, H l = none → Q (.ref l) (upd H l (.tup ys))) := fun pins s σ H xs us Q I r h => by
  obtain ⟨p, ys, e, hs, q⟩ := h
  exact call_tuple_of pins s σ H xs us Q I r ⟨p, ys, e, .inl ⟨hs, q⟩⟩
theorem call_lenL : CallR X (.builtin "len") (fun xs H Q => ∃ p ys, xs = [.ref p] ∧ SqL X.K H p ys ∧ Q (.int ys.length) H) := fun pins s σ H xs us Q I r h => by
  obtain ⟨p, ys, e, hs, q⟩ := h
  exact call_len_seq pins s σ H xs us Q I r ⟨p, ys, e, .inl hs, q⟩
theorem call_lenU : CallR X (.builtin "len") (fun xs H Q => ∃ p ys, xs = [.ref p] ∧ SqT X.K H p ys ∧ Q (.int ys.length) H) := fun pins s σ H xs us Q I r h => by
  obtain ⟨p, ys, e, hs, q⟩ := h
  exact call_len_seq pins s σ H xs us Q I r ⟨p, ys, e, .inr hs, q⟩
theorem call_listL : CallR X (.type "list") (fun xs H Q => ∃ p ys, xs = [.ref p] ∧ SqL X.K H p ys ∧ ∀ l, H l = none → Q (.ref l) (upd H l (.lst ys))) := fun pins s σ H xs us Q I r h => by
  obtain ⟨p, ys, e, hs, q⟩ := h
  exact call_list_of pins s σ H xs us Q I r ⟨p, ys, e, .inl hs, q⟩
/-- a class of the text is no built-in type -/
theorem op_isCT : OpR X (compareOp .Is) (fun x y H Q => ∃ a n, x = V.ref a ∧ y = V.ty n ∧ Q (.bl false) H) := by
  intro pins s σ H x y v u Q I rx ry h
  obtain ⟨a, n, rfl, rfl, q⟩ := h
  cases (show v = Value.ref a from rx)
  cases (show u = Value.type n from ry)
  exact wpAny_is_other rfl (fun z => by cases z) ⟨.bl false, H, I, rfl, q⟩
theorem looks_ty {M : Model} {s : Shared} {u : Value} {T : String} (h : s.TypeIs u T) : PySem.W.Looks M s.heap (typeOf u) (.type T) := by
  unfold Shared.TypeIs at h
  split at h
  · obtain ⟨o, ho, hc⟩ := h
    exact fun A Q E s' k q => wpAny_typeOf_ref (k _ _ ho) (by rw [hc]; exact q)
  · exact PySem.W.Looks.of_pure h
/-- x == y by the text's own __eq__; y an instance of that class, or of a built-in type -/
def rEqOwn (K : PySem.W.Frag) (C : Addr) (sp : Sp) (E : XK) : R2 := fun x y H Q => ∃ a dx fs, x = .ref a ∧ H a = some (.ins C dx fs) ∧
  ((∃ b dy gs, y = .ref b ∧ H b = some (.ins C dy gs)) ∨ ∃ T, TyB K H y T ∧ PySem.W.notFirst K C (.type T) = true) ∧ sp [x, y] H Q E
theorem op_eqOwn {CX : CXT} {C g : Addr} {n : Nat} {sp : Sp} {E : XK} (hs : PySem.W.findIn X.K (.ref C) "__eq__" = some (some (.ref g))) (hf : PySem.W.isFn X.K (.ref g) = true)
    (F : FnR X.prog X.w X.K X.mg X.base CX n g sp) (hr : Room n X.A) (hx : Passes CX X E) : OpR X (compareOp .Eq) (rEqOwn X.K C sp E) := by
  intro pins s σ H x y v u Q I rx ry h
  obtain ⟨a, dx, fs, rfl, ha, hy, q⟩ := h
  cases (show v = Value.ref a from rx)
  obtain ⟨mA, O, _⟩ := ins_get I.hok ha
  obtain ⟨od, J, _⟩ := O.look
  obtain ⟨m, hF⟩ := I.fr
  show wpAny (model X.prog X.w) X.A (richCompare .Eq (.ref a) u) (EP X pins σ Q) X.xe s
  have fin : wpAny (model X.prog X.w) X.A (call (.ref g) [.ref a, u]) (PySem.W.CmpBack (EP X pins σ Q)) X.xe s := by
    refine wpAny_mono (wpAny_call (run_fnR (us := [.ref a, u]) (vs := [.ref a, y]) F hr hx I (.cons rfl (.cons ry .nil)) q)) (fun w s' z => ?_) fun _ _ x => x
    obtain ⟨z', H', I', rz, qz⟩ := z
    exact SlX.cmpback rz ⟨z', H', I', rz, qz⟩
  rcases hy with ⟨b, dy, gs, rfl, hb⟩ | ⟨T, ty, nf⟩
  · cases (show u = Value.ref b from ry)
    obtain ⟨mB, O2, _⟩ := ins_get I.hok hb
    obtain ⟨od2, J2, _⟩ := O2.look
    exact PySem.W.cmp_K (op := .Eq) (tb := .ref C) hr.units0 hF I.ok.mod.kin J J2.type (by simp [PySem.W.notFirst]) hs hf fin
  · exact PySem.W.cmp_K (op := .Eq) (tb := .type T) hr.units0 hF I.ok.mod.kin J (looks_ty (ty.is I ry)) nf hs hf fin
theorem nf_str {K : PySem.W.Frag} {C : Addr} : PySem.W.notFirst K C (.type "str") = true := by rfl
theorem nf_tup {K : PySem.W.Frag} {C : Addr} : PySem.W.notFirst K C (.type "tuple") = true := by rfl
end
end Vx
/-! an own exception whose __init__ begins with super().__init__(e): its def by its body -/
namespace Vx
open PySem PySem.Spec PySem.Calls L2
theorem zip_rev {x : Str} {v : Value} : ∀ {P : List Str} {vs : List Value} {i : Nat}, P.Nodup → P[i]? = some x → vs[i]? = some v → (P.zip vs).reverse.lookup x = some v
  | [], _, _, _, h, _ => by simp at h
  | _ :: _, [], _, _, _, h => by simp at h
  | p :: P, w :: vs, i, nd, h1, h2 => by
    obtain ⟨n1, n2⟩ := List.nodup_cons.mp nd
    rw [List.zip_cons_cons, List.reverse_cons, List.lookup_append]
    cases i with
    | zero =>
      simp at h1 h2
      subst h1 h2
      have : (P.zip vs).reverse.lookup p = none := by
        cases e : (P.zip vs).reverse.lookup p with
        | none => rfl
        | some z => exact absurd (List.of_mem_zip (List.mem_reverse.mp (PySem.mem_of_lookup e))).1 n1
      rw [this]
      simp
    | succ i =>
      rw [zip_rev (i := i) n2 (by simpa using h1) (by simpa using h2)]
      rfl
/-- the names of such a def: its own, and __class__ -/
structure SupScope (N P : List Str) (sc : Scope) : Prop where
  kind : sc.kind = .function
  co : sc.isCoroutine = false
  gen : sc.isGenerator = false
  nd : N.Nodup
  pre : N.take P.length = P
  par : ∀ x ∈ P, sc.names.lookup x = some .local
  nocell : ∀ y ∈ sc.names, y.2 ≠ .cell
  free1 : ∀ y ∈ sc.names, y.2 = .free → y.1 = "__class__"
  sup : sc.names.lookup ("super" : Str) = some .globalImplicit
  cls : sc.names.lookup ("__class__" : Str) = some .free
def cxS (CX : CXT) (P : Program) (w : World) (K : PySem.W.Frag) (mg : Str → Option Value) (base : Heap) (N : List Str) (qual : Str) (scope : Scope) (f : Addr) (cd : Value) (cc : Addr) (A : Around) (outer : List Env) (s : Shared) (H : Hp) (E : XK) : Cx where
  prog := P
  w := w
  K := K
  mg := mg
  base := base
  A := A.deeper (PySem.W.ksEnv qual scope s.heap.objs.size f cd cc)
  N := N
  s_0 := s
  H_0 := H
  env := PySem.W.ksEnv qual scope s.heap.objs.size f cd cc
  outer := outer
  stack := PySem.W.ksEnv qual scope s.heap.objs.size f cd cc :: outer
  ex := []
  calm := true
  fn := fun _ => false
  pn := []
  xe := fun e s' => wpAny (model P w) (A.deeper (PySem.W.ksEnv qual scope s.heap.objs.size f cd cc)) (leaving (PySem.W.ksEnv qual scope s.heap.objs.size f cd cc) e) (fun _ s'' => CX outer H s E e s'') (fun e' s'' => CX outer H s E e' s'') s'
section
variable {CX : CXT} {P : Program} {w : World} {K : PySem.W.Frag} {mg : Str → Option Value} {base : Heap} {N ps : List Str} {qual : Str} {scope : Scope} {f cc : Addr} {cd : Value}
theorem inv_startS {A : Around} {outer : List Env} {s : Shared} {H : Hp} {E : XK} {us : List Value} {vs : List V} {h1 : Heap} {tk : Nat} {D : Addr} {cl : Value} {cld : Option Addr} {csl : Array (Option Value)}
    (S : SupScope N ps scope) (hd : A.handled = none) (e0 : Env0 P w K mg base A outer s H) (hl : vs.length = ps.length) (r : Vals vs us) (lc : K.lookup cc = some ⟨cl, cld, .cell (some (.ref D)), csl⟩)
    (hns : h1.Ns s.heap.objs.size (fun x => (ps.zip us).reverse.lookup x)) (hk : ∀ b o, s.heap.get? b = some o → h1.get? b = some o) :
    Inv (cxS CX P w K mg base N qual scope f cd cc A outer s H E) [] (L2.start N vs) H { s with heap := h1, toks := tk } := by
  have noA : ∀ b : Addr, b ∉ (cxS CX P w K mg base N qual scope f cd cc A outer s H E).ex := fun b z => absurd (show b ∈ ([] : List Addr) from z) (by simp)
  have bc := e0.mod.kin _ _ lc
  have lk1 : ∀ {x : Str} {c : Addr}, ([(("__class__" : Str), cc)] : List (Str × Addr)).lookup x = some c → x = "__class__" ∧ c = cc := fun {x c} h => by
    have m := PySem.mem_of_lookup h
    rw [List.mem_singleton] at m
    exact ⟨(Prod.mk.inj m).1, (Prod.mk.inj m).2⟩
  refine ⟨⟨e0.mod, S.kind, rfl, rfl, Nat.le_refl _, fun y z c h1 h2 => ?_, fun y hy => ?_, fun y c z h => ?_, fun _ => hd, Around.frames_deeper e0.frames, .inr ⟨rfl, rfl⟩, fun b z => absurd z (noA b), e0.bs, e0.bsz, fun b _ _ => noA b, fun b z => absurd z (noA b), e0.funs, e0.frf⟩,
    rfl, e0.bare, Un.kept hk, ⟨_, hns, fun i y v h1 h2 h3 => ?_⟩, fun y c h => ?_, e0.hok.fresh (Nat.le_refl _), fun y c h => ?_, fun p hp => absurd (show p ∈ ([] : List (Addr × Obj)) from hp) (by simp), e0.hok.kept hk, ?_⟩
  · exact (lk1 h1).1.trans (lk1 h2).1.symm
  · have hy : scope.names.lookup y = some .cell ∨ scope.names.lookup y = some .free := hy
    rcases hy with hy | hy
    · exact absurd rfl (S.nocell _ (PySem.mem_of_lookup hy))
    · have e : y = "__class__" := S.free1 _ (PySem.mem_of_lookup hy) rfl
      subst e
      exact ⟨cc, rfl⟩
  · cases (show false = true from z)
  · have hpl : ps.length ≤ N.length := by have := congrArg List.length S.pre; rw [List.length_take] at this; omega
    have hi : i < vs.length := by
      unfold L2.start at h2
      by_cases hi : i < vs.length
      · exact hi
      · rw [List.getElem?_append_right (by simpa using hi)] at h2
        rw [List.getElem?_replicate] at h2
        split at h2 <;> cases h2
    have ha : vs[i]? = some v := by
      unfold L2.start at h2
      rw [List.getElem?_append_left (by simpa using hi), List.getElem?_map] at h2
      cases e : vs[i]? with
      | none => rw [e] at h2; cases h2
      | some a => rw [e] at h2; cases h2; rfl
    obtain ⟨u, hu, rv⟩ := r.get ha
    have hp : ps[i]? = some y := by
      rw [← S.pre, List.getElem?_take_of_lt (by omega)]; exact h1
    have ndP : ps.Nodup := by rw [← S.pre]; exact S.nd.sublist (List.take_sublist _ _)
    exact ⟨u, rv, .inl ⟨S.par y (List.mem_of_getElem? hp), zip_rev ndP hp hu⟩⟩
  · obtain ⟨_, rfl⟩ := lk1 h
    exact ⟨_, _, hk _ _ (e0.bs _ _ bc).1, rfl⟩
  · obtain ⟨_, rfl⟩ := lk1 h
    exact (e0.bs _ _ bc).2
  · unfold L2.start
    show _ = N.length
    have hpl : ps.length ≤ N.length := by have := congrArg List.length S.pre; rw [List.length_take] at this; omega
    rw [List.length_append, List.length_map, List.length_replicate]
    omega
/-- a bound ValueError.__init__, called -/
theorem call_mw {X : Cx} {pins : List (Addr × Obj)} {σ : L2.St} {H : Hp} {s : Shared} {C u a : Addr} {rest : List Value} {Q : Value → Shared → Prop} (T : OexC X.K C) (I : Inv X pins σ H s) (e : H a = some (exo a C none)) (hu : s.heap.get? u = some (PySem.W.kxs_mw "ValueError.__init__" a)) (hl : rest.length ≤ sizeLine)
    (h : ∀ s', Inv X pins σ H s' → Q .none s') : wpAny (model X.prog X.w) X.A (call (.ref u) rest) Q X.xe s := by
  obtain ⟨nm, q, N, bs, bm, sn, sub, ab, col, dd, k0, k1, k2, k3, k5, hC, hbm⟩ := T.cls
  obtain ⟨t1, ho⟩ := exo_at I.hok e
  obtain ⟨hp, g, d, t, os⟩ := s
  have fin : ∀ h' t2, (∀ b o, b ≠ a → hp.get? b = some o → h'.get? b = some o) → h'.get? a = some (PySem.HandSPX.excO C t2) → Q .none ⟨h', g, d, t, os⟩ := fun h' t2 k hx => by
    have J := I.write (t' := t) (x := a) (e := a) (o := exo a C none) (by rw [e]; exact True.intro) (.inl rfl) k ⟨_, hx⟩ (exo_ok hx)
    have eu : upd H a (exo a C none) = H := by
      funext b
      by_cases hb : b = a
      · rw [hb, upd_same, e]
      · rw [upd_ne hb]
    rw [eu] at J
    exact h _ J
  refine wpAny_call (codeAny_of_tree ?_)
  show wpAny _ X.A.in1 (callAny (.ref u) ⟨rest, []⟩) _ _ _
  simp only [callAny]
  refine wpAny_bind (wpAny_load hu ?_)
  simp only [PySem.W.kxs_mw, show (Value.type "method-wrapper" == Value.type "method" || Value.type "method-wrapper" == Value.type "builtin_function_or_method" || Value.type "method-wrapper" == Value.type "method-wrapper") = true by decide, if_true]
  refine PySem.W.KFB.if_so (by decide) ?_
  refine wpAny_bind (PySem.W.check_bound_init F.excBase_ValueError.toExcCallFacts (I.kIn _ _ hC) ho rfl ?_)
  refine wpAny_bind (wpAny_pure (wpAny_pure ?_))
  refine ⟨Code.quiet_builtin _ (by decide +kernel), codeAny_builtin F.excBase_ValueError.initEntry ?_⟩
  rw [Around.under_plainId F.excBase_ValueError.init.plain _]
  wp_walk
  refine fin _ hp.objs.size (fun b o hb ho => ?_) ?_
  · rw [Heap.get?_update_other _ _ (Ne.symm hb)]
    exact Heap.get?_push_of_some _ ho
  · rw [Heap.get?_update_self _ (Heap.get?_push_of_some _ ho) rfl]
    rfl
/-- the facts of the text that such a def rests on -/
structure SupFn (P : Program) (K : PySem.W.Frag) (qual : Str) (params : Arguments) (scope : Scope) (f C cc : Addr) (cd : Value) (slf : Str) : Prop where
  ar : ∃ ar : Arg, (params.posonlyargs ++ params.args).head? = some ar ∧ ar.arg = slf
  code : PySem.W.codeIn K cd qual = true
  file : ∃ (cda : Addr) (ccl : Value) (cdd : Option Addr) (vs : Array Value) (ccs : Array (Option Value)) (file : Str) (tf : Tok), cd = .ref cda ∧ K.lookup cda = some ⟨ccl, cdd, .fields vs, ccs⟩ ∧ vs[2]? = some (.str file tf) ∧ ((P.main.file : Str) == file) = true
  cell : ∃ (cl : Value) (cld : Option Addr) (csl : Array (Option Value)), K.lookup cc = some ⟨cl, cld, .cell (some (.ref C)), csl⟩
  cls : ∃ cdD, PySem.W.clsIn K C = some cdD
  sub : PySem.W.mroIn K C (.ref C) = some true
  top : (P.main.scope.names.lookup ("super" : Str)).isSome = false
  sup : PySem.W.ks_superIn K C C "__init__" = some (some (.builtin "ValueError.__init__"))
  ve : PySem.W.subIn K (.ref C) (.type "ValueError") = some true
  op : PySem.W.nsIn K cStatics "thirdparty.any" = some none
  oex : OexC K C
theorem fn_super {k : Nat} {name : Str} {params : Arguments} {body : List Stmt} {dV kV doc pm ct oc : Value} {an od : Option Addr} {osl : Array (Option Value)} {sp : Sp} {C : Addr} {self : Str} {p0 p1 p2 pos pos' : Pos} {e : Expr} {rest : List Stmt} {pl : Addr → Sem Bool}
    (lk : K.lookup f = some ⟨oc, od, .func (PySem.W.ksFn name qual params body scope dV kV doc pm an cd ct cc), osl⟩) (S : SupScope N ps scope) (T : SupFn P K qual params scope f C cc cd self) (hself : ps[0]? = some self) (hmg : mg "super" = none)
    (hb0 : body = .Expr (.Call (.Attribute (.Call (.Name "super" p0) [] [] p1) "__init__" p2) [e] [] pos) pos' :: rest)
    (hint : ∀ L, interactive (PySem.W.ksEnv qual scope L f cd cc) = false) (hsw : ∀ L, swapsWith (.Call (.Attribute (.Call (.Name "super" p0) [] [] p1) "__init__" p2) [e] [] pos) none pos'.line (PySem.W.ksEnv qual scope L f cd cc) = pure false)
    (hev : ∀ L, eval (.Call (.Attribute (.Call (.Name "super" p0) [] [] p1) "__init__" p2) [e] [] pos) (PySem.W.ksEnv qual scope L f cd cc) = (do
      let ov ← attributeBase (.Call (.Name "super" p0) [] [] p1) "__init__" (PySem.W.ksEnv qual scope L f cd cc) (eval (.Call (.Name "super" p0) [] [] p1) (PySem.W.ksEnv qual scope L f cd cc))
      standAt p2.atName
      let (g, first) ← holding [ov] (getMethod ov "__init__" (pl L))
      callWith pos g first (backTo pos (starEach [e] (PySem.W.ksEnv qual scope L f cd cc))) []))
    (hstar : ∀ L, starEach [e] (PySem.W.ksEnv qual scope L f cd cc) = [(false, eval e (PySem.W.ksEnv qual scope L f cd cc))])
    (len : ∀ vs H Q E, sp vs H Q E → vs.length = ps.length)
    (hbody : ∀ (A : Around) (outer : List Env) (s : Shared) (H : Hp) (vs : List V) (Q : VK) (E : XK), Room k (A.deeper (PySem.W.ksEnv qual scope s.heap.objs.size f cd cc)) → sp vs H Q E →
      ∃ (a : Addr) (ta : TA) (t : TS), vs[0]? = some (.ref a) ∧ H a = some (exo a C none) ∧ PA (cxS CX P w K mg base N qual scope f cd cc A outer s H E) [e] ta ∧ PSs (cxS CX P w K mg base N qual scope f cd cc A outer s H E) rest t ∧
        ta (L2.start N vs) H fun ws H1 => ws.length ≤ 1000 ∧ H1 a = some (exo a C none) ∧ t { nx := fun _ H' => Q .non H', rt := Q } (L2.start N vs) H1) :
    FnOk P w K mg base CX (k + 1) f (PySem.W.ksFn name qual params body scope dV kV doc pm an cd ct cc) ps sp := by
  refine ⟨len, fun A outer s H args us vs Q E hr e0 hb r hsp => ?_⟩
  have hl := len _ _ _ _ hsp
  have KX : K.In s.heap := e0.mod.kin.keeps fun b o e => (e0.bs b o e).1
  have lim : s.heap.NoLimit := e0.mod.nolimit.keeps fun b o e => (e0.bs b o e).1
  obtain ⟨cl, cld, csl, lc⟩ := T.cell
  obtain ⟨ar, har, harn⟩ := T.ar
  obtain ⟨cda, ccl, cdd, cvs, ccs, file, tf, rfl, lcd, hvs, hfile⟩ := T.file
  obtain ⟨cdD, hD⟩ := T.cls
  obtain ⟨a, ta, t, hv0, ha, hPA, hPS, hq⟩ := hbody A outer s H vs Q E (hr.deeper _) hsp
  subst hb0
  refine ks_codeAny_call_defAt (fd := PySem.W.ksFn name qual params _ scope dV kV doc pm an (.ref cda) ct cc) (binds := ps.zip us) hr.depth (KX _ _ lk) rfl lim (PySem.W.codeRec_of KX T.code) rfl hb S.nocell (fun y hy => S.par y.1 (List.of_mem_zip hy).1) (fun h₁ hns hk => ?_) S.co S.gen S.kind
  have I : Inv (cxS CX P w K mg base N qual scope f (.ref cda) cc A outer s H E) [] (L2.start N vs) H { s with heap := h₁, toks := s.toks + (ps.zip us).length } := inv_startS S hr.hd e0 hl r lc hns hk
  have fin : ∀ {σ' : L2.St} {H' : Hp} {s' : Shared} {v : V} {u : Value}, Inv (cxS CX P w K mg base N qual scope f (.ref cda) cc A outer s H E) [] σ' H' s' → RelV v u → Q v H' → CE outer P w H s Q u s' :=
    fun {σ' H' s' v u} J rv q => ⟨v, H', J.os, J.bare, J.base, J.hok, rv, q⟩
  have us0 : us[0]? = some (.ref a) := by
    obtain ⟨u, hu, rv⟩ := r.get hv0
    rw [hu]
    exact congrArg some rv
  have hself2 : ((ps.zip us).reverse.lookup ar.arg) = some (.ref a) := by
    rw [harn]
    exact zip_rev (by rw [← S.pre]; exact S.nd.sublist (List.take_sublist _ _)) hself us0
  show PySem.wpAt (model P w) (A.deeper (PySem.W.ksEnv qual scope s.heap.objs.size f (.ref cda) cc)) (.func _ (PySem.W.ksEnv qual scope s.heap.objs.size f (.ref cda) cc)) (execs _ (PySem.W.ksEnv qual scope s.heap.objs.size f (.ref cda) cc)) _ _ _
  refine ks_wpAt_mono (Q := SP (cxS CX P w K mg base N qual scope f (.ref cda) cc A outer s H E) [] { nx := fun _ H' => Q .non H', rt := Q }) (E := (cxS CX P w K mg base N qual scope f (.ref cda) cc A outer s H E).xe) ?_ (fun fl s' hs => ?_) fun e s' hs => hs
  · refine ks_wpAt_execs_cons (ks_wpAt_Expr_any (ks_wpAt_MethodCall (pl := pl _) ?_ (hev _)) (hint _) (hsw _))
    have lt := I.lt
    have nofs := fun {x : Addr} (hx : h₁.objs.size ≤ x) => I.nofs hx
    generalize s.toks + (ps.zip us).length = tk at I ⊢
    obtain ⟨hp0, g, d, tk0, os⟩ := s
    have kin : K.In h₁ := I.kIn
    obtain ⟨oD, hD1, hD2⟩ : ∃ oD, h₁.get? C = some oD ∧ oD.data = .cls cdD := by
      unfold PySem.W.clsIn at hD
      split at hD
      · rename_i c d cd' sl ho
        cases hD
        exact ⟨_, kin _ _ ho, rfl⟩
      · cases hD
    obtain ⟨t1, hax⟩ := exo_at I.hok ha
    have IA : PySem.W.InstAt h₁ a ({ cls := .ref C, dict := none, data := .fields #[.ref t1, .none, .none, .none, .bool false, .none] } : Obj) C none := ⟨hax, rfl, rfl, trivial⟩
    refine ks_wpAt_super_base (ar := ar) (vs := cvs) S.sup S.cls (by decide) rfl (kin _ _ lk) rfl har rfl (kin _ _ lcd) rfl hvs hfile T.top ?_
    obtain ⟨mb, hb1, hb2⟩ := I.mod.blt
    refine PySem.W.ks_loadName_global S.kind S.sup (loadGlobal_builtin (env := PySem.W.ksEnv qual scope hp0.objs.size f (.ref cda) cc) (I.mod.glob.keeps I.bk) hmg (hb1.keeps I.bk) ((hb2 _ (by decide)).trans (show bootBuiltins "super" = some (.type "super") by kernel_rfl)) ⟨rfl, ?_⟩)
    refine wpAny_loadName_free S.kind S.cls rfl ⟨_, kin _ _ lc, rfl⟩ ?_
    refine wpAny_loadName_local S.kind (S.par _ (by rw [harn]; exact List.mem_of_getElem? hself)) hns hself2 ?_
    refine ks_wpAny_isType_cls hD1 hD2 ⟨rfl, ?_⟩
    refine ks_wpAny_call_super hD1 hD2 hax rfl (fun c z => by cases z) (PySem.W.looks_mroIn kin T.sub) (fun h2 e2 k2 => ?_)
    have I2 : Inv (cxS CX P w K mg base N qual scope f (.ref cda) cc A outer ⟨hp0, g, d, tk0, os⟩ H E) [] (L2.start N vs) H ⟨h2, g, d, tk, os⟩ := I.kept (t' := tk) k2
    have kin2 : K.In h2 := I2.kIn
    obtain ⟨cdC, hcC⟩ : ∃ cdC, PySem.W.clsIn K C = some cdC := ⟨_, hD⟩
    have hsup := T.sup
    unfold PySem.W.ks_superIn at hsup
    rw [hcC, Option.bind_some] at hsup
    have IA2 : PySem.W.InstAt h2 a ({ cls := .ref C, dict := none, data := .fields #[.ref t1, .none, .none, .none, .bool false, .none] } : Obj) C none := ⟨k2 _ _ hax, rfl, rfl, trivial⟩
    refine PySem.W.kxs_getMethod PySem.W.kxs_ValueError e2 (PySem.W.looks_opaque kin2 T.op) (l₀ := cdC.mro) (fun A Q E s k q => wpAny_bind ((PySem.W.looks_clsIn kin2 hcC) A _ E s k (wpAny_pure q))) rfl kin2 hsup (IA2.type.andThen (PySem.W.looks_subIn kin2 T.ve)) (PySem.W.ks_ne kin2 IA2 hcC) (by decide) ?_
    have k3 : ∀ b o, h2.get? b = some o → (h2.push (PySem.W.kxs_mw "ValueError.__init__" a)).get? b = some o := fun b o z => Heap.get?_push_of_some _ z
    have g3 : (h2.push (PySem.W.kxs_mw "ValueError.__init__" a)).get? h2.objs.size = some (PySem.W.kxs_mw "ValueError.__init__" a) := Heap.get?_push_at rfl rfl
    have I3 : Inv (cxS CX P w K mg base N qual scope f (.ref cda) cc A outer ⟨hp0, g, d, tk0, os⟩ H E) [] (L2.start N vs) H ⟨h2.push (PySem.W.kxs_mw "ValueError.__init__" a), g, d, tk + 1, os⟩ := I2.kept (t' := tk + 1) k3
    have I4 : Inv (cxS CX P w K mg base N qual scope f (.ref cda) cc A outer ⟨hp0, g, d, tk0, os⟩ H E) [(h2.objs.size, PySem.W.kxs_mw "ValueError.__init__" a)] (L2.start N vs) H ⟨h2.push (PySem.W.kxs_mw "ValueError.__init__" a), g, d, tk + 1, os⟩ := I3.pins_of fun p hp => by
      rw [List.mem_singleton] at hp
      subst hp
      exact ⟨g3, I2.hok.fresh (Nat.le_refl _), Ne.symm (Nat.ne_of_lt I2.lt), I2.nofs (Nat.le_refl _), fun v z => by cases z⟩
    refine PySem.W.kxs_callWith (i := "ValueError.__init__") (x := a) (by rw [hstar]; rfl) ?_
    have hrun := hPA.run pos _ _ _ _ _ I4 hq
    rw [show (cxS CX P w K mg base N qual scope f (.ref cda) cc A outer ⟨hp0, g, d, tk0, os⟩ H E).env = PySem.W.ksEnv qual scope hp0.objs.size f (.ref cda) cc from rfl, hstar] at hrun
    rw [hstar]
    refine evalArgs_plain (thn hrun fun ws s5 ⟨xs, H5, I5, r5, hl5, ha5, q5⟩ => ?_)
    have hu5 : s5.heap.get? h2.objs.size = some (PySem.W.kxs_mw "ValueError.__init__" a) := (I5.pin (h2.objs.size, PySem.W.kxs_mw "ValueError.__init__" a) (by exact List.mem_append_right _ (List.mem_singleton.mpr rfl))).1
    refine ⟨hu5, ?_⟩
    refine call_mw T.oex I5 ha5 hu5 (by show ws.length ≤ sizeLine; rw [← Paired.length r5, sizeLine_eq]; omega) fun s6 J => ?_
    exact wpAt_of_wpAny (hPS.run [] _ _ _ _ (J.pins_of fun p hp => absurd hp (by simp)) q5)
  · cases fl with
    | ret u =>
      obtain ⟨v, σ', H', J, rv, q⟩ := hs
      exact fin J rv q
    | next =>
      obtain ⟨σ', H', J, q⟩ := hs
      exact fin (v := V.non) (u := Value.none) J rfl q
    | brk =>
      obtain ⟨_, _, _, q⟩ := hs
      exact False.elim q
    | cont =>
      obtain ⟨_, _, _, q⟩ := hs
      exact False.elim q
end
end Vx
namespace Vx
open PySem PySem.Spec PyProof.Rows L2
/-- isinstance of the caught error that has a dict of its own -/
theorem call_isEd {X : Cx} {a D : Addr} {oe : Obj} {cls : Value} {d : Option Addr} {pn : List (Addr × Obj)} (C : ExcC X.K D) (hcl : (PySem.W.clsIn X.K D).isSome = true) (hz : Zc cls d oe) (hf : ∃ vs, oe.data = .fields vs) :
    CallR (X.suite a ((a, oe) :: pn)) (.builtin "isinstance") (fun xs H Q => cls = .ref D ∧ (∃ (dd : Addr) (fs : List (Str × V)), d = some dd ∧ H dd = some (.xd fs)) ∧ rIsE X.K D a xs H Q) := fun pins s σ H xs us Q I r h => by
  obtain ⟨rfl, ⟨dd, fs, rfl, hd⟩, h⟩ := h
  obtain ⟨c, cv, b, rfl, hcv, e, q⟩ := h
  cases r with
  | cons rx rr =>
    cases rr with
    | cons rt rr =>
      cases rr
      cases rx
      have ec := hcv _ rt
      subst ec
      obtain ⟨hget, _⟩ := I.pin (a, oe) (List.mem_append.mpr (.inl List.mem_cons_self))
      obtain ⟨vs, hv⟩ := hf
      have hx : ObjOk X.prog X.w H s.heap dd (.xd fs) := I.hok dd _ hd
      obtain ⟨mA, hns, hr⟩ := hx
      obtain ⟨od, ho, hl⟩ := lookIn_ns hns
      have J : PySem.W.InstAt s.heap a oe D (some od) := by
        obtain ⟨oc, od2, oda, osl⟩ := oe
        obtain ⟨h1, h2⟩ := hz
        dsimp only at h1 h2 hv
        subst h1 h2 hv
        exact ⟨hget, rfl, rfl, ho⟩
      exact PySem.W.kia_one (PySem.W.kitx_exc hcl C.hg C.hk C.hs C.ha C.hn C.ht C.hm) I.kIn J e (fun z => nomatch z) fun tk => ⟨.bl b, H, I.kept (t' := tk) fun _ _ z => z, rfl, q⟩
end Vx
namespace Vx
open PySem PySem.Spec PyProof.Rows L2
/-! ### set(xs) of a list of ints -/
abbrev bareSet (w : World) : Obj := { cls := .type "set", dict := none, data := .set #[] 0 (.fresh 0 0 (!w.params.followText "set-order")) }
section
variable {P : Program} {w : World} {A : Around} {E : Value → Shared → Prop} {s : Shared}
theorem set_of_list {l : Addr} {its : Array Value} (ns : List Int) {Q : Value → Shared → Prop} (calm : A.handled = none) (hl : s.heap.IsList l its) (hi : IntsAre its.toList ns) (room : ns.length + 1 < scanBound)
    (k : ∀ (g : Heap) (t c : Nat), SetR w g s.heap.objs.size (fun j => decide (j ∈ ns)) c → c ≤ ns.length → (∀ b o, s.heap.get? b = some o → g.get? b = some o) → Q (.ref s.heap.objs.size) { s with heap := g, toks := t }) :
    wpAny (model P w) A (call (.type "set") [.ref l]) Q E s := by
  have len : its.size = ns.length := by
    have z := IntsAre.length hi
    rwa [Array.length_toList] at z
  obtain ⟨c0, tl, hmro⟩ := F.called_set.mro
  have hmade := F.called_set.made
  have hsub := F.called_set.sub
  refine wpAny_call (codeAny_of_tree ?_)
  show wpAny _ _ (callAny (.type "set") _) _ _ _
  refine wpAny_pure ⟨Code.quiet_builtin _ (by decide +kernel), codeAny_builtin F.entry_type_call ?_⟩
  rw [Around.under_plain (weight_type_call_type "set" [.ref l] []) rfl]
  have n1 := F.called_set.notType
  have n2 := F.called_set.canCreate
  have n3 := F.typeCall_set_1 (.ref l)
  repeat (any_goals (first | assumption | wp_step))
  refine codeAny_mono (code_set_led1 (.ref l) (E := E) (Q₁ := fun ob s1 => ob = .ref s.heap.objs.size ∧ s1 = { s with heap := s.heap.push (bareSet w) }) ⟨rfl, rfl⟩) fun r s1 hr => ?_
  rcases r with e | fl
  · exact hr
  cases fl with
  | ret ob =>
    obtain ⟨rfl, rfl⟩ := hr
    have at0 : (s.heap.push (bareSet w)).get? s.heap.objs.size = some (bareSet w) := Heap.get?_push_size _ rfl
    have ty0 : Shared.TypeIs { s with heap := s.heap.push (bareSet w) } (.ref s.heap.objs.size) "set" := ⟨_, at0, rfl⟩
    have i1 := F.called_set.init.lookup
    have i2 := F.called_set.init.bind (.ref s.heap.objs.size)
    repeat (any_goals (first | assumption | wp_step))
    refine codeAny_mono (codeAny_call_builtin (R := wants (fun v s2 => v = .none ∧ ∃ g t c, s2 = { s with heap := g, toks := t } ∧ SetR w g s.heap.objs.size (fun j => decide (j ∈ ns)) c ∧ c ≤ ns.length ∧
        (∀ b o, s.heap.get? b = some o → g.get? b = some o)) E) F.called_set.init.plain F.entry_set_init (check_set_init_1 ty0 ?_)) fun r2 s2 hr2 => ?_
    · obtain ⟨⟨oc, od, ob, osl⟩, hol, hcl, nl, hdl⟩ := hl
      simp only at hcl hdl
      subst hcl hdl
      have at1 : (s.heap.push (bareSet w)).get? l = some { cls := .type "list", dict := od, data := .seq its nl, slots := osl } := Heap.get?_push_of_some _ hol
      have q1 := F.sub_list_set
      have q2 := F.sub_list_frozenset
      have q3 : (Value.type "list" == Value.type "dict") = false := by decide
      have isl : (s.heap.push (bareSet w)).IsList l its := ⟨_, at1, rfl, nl, rfl⟩
      unfold Builtin.«set.__init__» noKeywords Builtin.Frozenset.updateFrom
      generalize hPI : pyIter = PI
      wp_walk
      subst hPI
      refine wpAny_pyIter_list isl ?_
      refine wpAny_bind (wpAny_runValue ?_)
      have lS : l < s.heap.objs.size := Heap.lt_size hol
      have calm3 : A.in1.in1.in1.handled = none := by simp [calm]
      have neI : l ≠ (s.heap.push (bareSet w)).objs.size := by
        rw [Heap.size_push]
        exact Nat.ne_of_lt (Nat.lt_succ_of_lt lS)
      have noS : s.heap.objs.size ∉ [(s.heap.push (bareSet w)).objs.size, l] := by
        rw [Heap.size_push]
        simp only [List.mem_cons, List.mem_singleton, List.not_mem_nil, or_false, not_or]
        exact ⟨Nat.ne_of_lt (Nat.lt_succ_self _), Nat.ne_of_gt lS⟩
      have item : ∀ (i : Nat) (v : Value), its[i]? = some v → ∃ m t, ns[i]? = some m ∧ v = .int m t := fun i v hv => by
        have li : i < ns.length := by rw [← len]; exact (Array.getElem?_eq_some_iff.mp hv).1
        obtain ⟨t, e⟩ := PyProof.Rows.IntsAre.int_at hi i v (by rw [Array.getElem?_toList]; exact hv)
        refine ⟨ns[i], t, List.getElem?_eq_getElem li, ?_⟩
        rw [e, List.getD_eq_getElem?_getD, List.getElem?_eq_getElem li]
        rfl
      refine set_update_ints ((Walks.list calm3 _ l neI its).toS) s.heap.objs.size noS ns len room item (its.size - 0) 0 _ (by omega) (Nat.zero_le _) ⟨⟨_, Heap.get?_push_size _ rfl, rfl, rfl⟩, (isl.push _)⟩ ?s0 ?fin
      case s0 => exact ⟨0, Nat.le_refl 0, setR_new_at (Heap.get?_push_of_some _ at0)⟩
      case fin =>
        intro s3 c3 mv hc3 hS3
        obtain ⟨g3, ge, dr, t3, os3⟩ := s3
        cases (show ge = s.gens from mv.gens)
        cases (show dr = s.drawn from mv.drawn)
        cases (show os3 = s.os from mv.os)
        show wpAny _ _ _ _ _ _
        refine wpAny_pure ?_
        show wpAny _ _ (ret Value.none) _ _ _
        rw [len] at hc3
        refine wpAny_pure ⟨rfl, g3, t3, c3, rfl, hS3, hc3, fun b o e => ?_⟩
        have b0 : b < s.heap.objs.size := Heap.lt_size e
        have b2 : b ≠ (s.heap.push (bareSet w)).objs.size := by
          rw [Heap.size_push]
          exact Nat.ne_of_lt (Nat.lt_succ_of_lt b0)
        exact mv.heap b o (by simp only [List.mem_cons, List.mem_singleton, List.not_mem_nil, or_false, not_or]; exact ⟨Nat.ne_of_lt b0, b2⟩) (Heap.get?_push_of_some _ (Heap.get?_push_of_some _ e))
    · rcases r2 with e | fl2
      · exact hr2
      cases fl2 with
      | ret v =>
        obtain ⟨rfl, g, t, c, rfl, hS, hc, hk⟩ := hr2
        repeat (any_goals (first | assumption | wp_step))
        exact k _ _ _ hS hc hk
      | _ => exact hr2.elim
  | _ => exact hr.elim
end
section
variable {X : Cx}
theorem cr_setL (hc : X.calm = true) : CallR X (.type "set") (fun vs H Q => ∃ (l : Addr) (ns : List Int), vs = [V.ref l] ∧ SqL X.K H l (ns.map V.int) ∧ ns.length + 1 < scanBound ∧
    ∀ p c, H p = none → c ≤ ns.length → Q (.ref p) (upd H p (SetO X.w p (fun j => decide (j ∈ ns)) c))) := by
  intro pins s σ H xs us Q I r h
  obtain ⟨l, ns, rfl, hl, room, q⟩ := h
  rw [Vals.ref1 r]
  obtain ⟨its, rv, pl, hz⟩ := I.list hl
  refine set_of_list ns (I.ok.hd hc) pl.isList (by simpa using ints_of_vals rv) room fun g t c R hc' k => ?_
  have hn : H s.heap.objs.size = none := I.hok.fresh (Nat.le_refl _)
  exact ⟨.ref _, _, I.laid (a := s.heap.objs.size) (t' := t) k (Nat.le_refl _) (setO_new R), rfl, q _ c hn hc'⟩
end
end Vx
namespace Vx
open PySem PySem.Spec PyProof.Rows L2
/-! ### ascending lists -/
theorem asc_eq : ∀ {l m : List Int}, l.Pairwise (· < ·) → m.Pairwise (· < ·) → (∀ k, k ∈ l ↔ k ∈ m) → l = m
  | [], [], _, _, _ => rfl
  | [], y :: m, _, _, h => absurd ((h y).mpr List.mem_cons_self) (by simp)
  | x :: l, [], _, _, h => absurd ((h x).mp List.mem_cons_self) (by simp)
  | x :: l, y :: m, hl, hm, h => by
    obtain ⟨h1, h2⟩ := List.pairwise_cons.mp hl
    obtain ⟨h3, h4⟩ := List.pairwise_cons.mp hm
    have e : x = y := by
      rcases List.mem_cons.mp ((h x).mp List.mem_cons_self) with e | e
      · exact e
      · rcases List.mem_cons.mp ((h y).mpr List.mem_cons_self) with e2 | e2
        · exact e2.symm
        · have a := h3 _ e
          have b := h1 _ e2
          omega
    subst e
    rw [asc_eq h2 h4 fun k => ?_]
    have q := h k
    constructor
    · intro hk
      rcases List.mem_cons.mp (q.mp (List.mem_cons_of_mem _ hk)) with e | e
      · exact absurd (h1 _ hk) (by omega)
      · exact e
    · intro hk
      rcases List.mem_cons.mp (q.mpr (List.mem_cons_of_mem _ hk)) with e | e
      · exact absurd (h3 _ hk) (by omega)
      · exact e
/-! ### data -/
theorem eqvAll_ints : ∀ (l m : List Int), PyData.eqvAll (l.map PyData.int) (m.map PyData.int) = decide (l = m)
  | [], [] => by simp [PyData.eqvAll]
  | [], y :: m => by simp [PyData.eqvAll]
  | x :: l, [] => by simp [PyData.eqvAll]
  | x :: l, y :: m => by
    show (PyData.eqv (.int x) (.int y) && PyData.eqvAll (l.map PyData.int) (m.map PyData.int)) = _
    rw [eqvAll_ints l m]
    show ((x == y) && decide (l = m)) = _
    by_cases e : x = y <;> by_cases e2 : l = m <;> simp [e, e2]
theorem eqv_tupI (l m : List Int) : PyData.eqv (.tuple (l.map PyData.int)) (.tuple (m.map PyData.int)) = decide (l = m) := eqvAll_ints l m
theorem eqv_lstI (l m : List Int) : PyData.eqv (.list (l.map PyData.int)) (.list (m.map PyData.int)) = decide (l = m) := eqvAll_ints l m
theorem dpAll_ints {K : PySem.W.Frag} {H : Hp} : ∀ l : List Int, DpAll K H (l.map V.int) (l.map PyData.int)
  | [] => .nil
  | x :: l => .cons (.int x) (dpAll_ints l)
theorem dp_tupI {K : PySem.W.Frag} {H : Hp} {a : Addr} {l : List Int} (h : SqT K H a (l.map V.int)) : Dp K H (.ref a) (.tuple (l.map PyData.int)) := .tup h (dpAll_ints l)
theorem dp_lstI {K : PySem.W.Frag} {H : Hp} {a : Addr} {l : List Int} (h : SqL K H a (l.map V.int)) : Dp K H (.ref a) (.list (l.map PyData.int)) := .lst h (dpAll_ints l)
theorem inV_ints (x : Int) : ∀ l : List Int, inV (.int x) (l.map V.int) = decide (x ∈ l)
  | [] => by simp [inV]
  | y :: l => by
    have ih := inV_ints x l
    unfold inV at ih ⊢
    rw [List.map_cons, List.any_cons, ih]
    show ((y == x) || decide (x ∈ l)) = _
    by_cases e : y = x
    · simp [e]
    · have e' : ¬ x = y := fun z => e z.symm
      simp [e, e']
theorem flat_ints (l : List Int) : (l.map V.int).all flatV = true := by
  rw [List.all_map]
  exact List.all_eq_true.mpr fun _ _ => rfl
end Vx
namespace Vx
open PySem PySem.Spec PyProof.Rows L2
theorem canAll_ints : ∀ l : List Int, PyData.canLayAll0 (l.map PyData.int) = true
  | [] => by simp [PyData.canLayAll0]
  | x :: l => by
    rw [List.map_cons]
    simp [PyData.canLayAll0, PyData.canLay0, canAll_ints l]
theorem depAll_ints : ∀ l : List Int, PyData.depthAll (l.map PyData.int) = 0
  | [] => by simp [PyData.depthAll]
  | x :: l => by
    rw [List.map_cons]
    simp [PyData.depthAll, PyData.depth, depAll_ints l]
theorem shaped_tupI (l : List Int) : SeqAt.shaped (.tuple (l.map PyData.int)) = true := by
  unfold SeqAt.shaped
  simp [PyData.canLay0, PyData.depth, canAll_ints, depAll_ints]
theorem shaped_lstI (l : List Int) : SeqAt.shaped (.list (l.map PyData.int)) = true := by
  unfold SeqAt.shaped
  simp [PyData.canLay0, PyData.depth, canAll_ints, depAll_ints]
theorem tyesT {σ : L2.St} {H : Hp} {A B : Hp → Prop} (h : A H) : tYes σ H (fun b H3 => if b = true then A H3 else B H3) := h
theorem item_ints {xs : List Int} {i : Nat} {x : V} (h : (xs.map V.int)[i]? = some x) : ∃ z, x = .int z ∧ xs[i]? = some z ∧ z ∈ xs := by
  rw [List.getElem?_map] at h
  cases e : xs[i]? with
  | none => rw [e] at h; cases h
  | some z =>
    rw [e] at h
    exact ⟨z, (Option.some.inj h).symm, rfl, List.mem_of_getElem? e⟩
theorem at_ints {xs : List Int} {k : Int} (h0 : 0 ≤ k) (h1 : k < (xs.length : Int)) : ∃ z, z ∈ xs ∧ atI (xs.map V.int) k = some (.int z) := by
  have hj : k.toNat < xs.length := by omega
  refine ⟨xs[k.toNat], List.getElem_mem hj, ?_⟩
  refine at_of (j := k.toNat) (by omega) ?_
  rw [List.getElem?_map, List.getElem?_eq_getElem hj]
  rfl
theorem mem_ins {ys : List Int} {j : Nat} {y k : Int} (hy : y ∈ ys) : k ∈ ys.take j ++ [y] ++ ys.drop j ↔ k ∈ ys := by
  have e : k ∈ ys ↔ k ∈ ys.take j ∨ k ∈ ys.drop j := by rw [← List.mem_append, List.take_append_drop]
  rw [List.mem_append, List.mem_append, List.mem_singleton, e]
  constructor
  · rintro ((h | h) | h)
    · exact .inl h
    · subst h
      exact e.mp hy
    · exact .inr h
  · rintro (h | h)
    · exact .inl (.inl h)
    · exact .inr h
theorem madeS {C : Addr} {H : Hp} {x dx : Addr} (nx : H x = none) (nd : H dx = none) : Same H (upd (upd H dx (.own x)) x (.ins C dx [])) := fun b o e => by
  rw [upd_ne (ne_of_none e nx), upd_ne (ne_of_none e nd)]
  exact e
theorem pe_gcx {X : Cx} {x : Str} {pos : Pos} {v : V} (hg : Gl X x) (h : ∃ u, X.mg x = some u ∧ RelV v u) (hd : (x == ("__debug__" : Str)) = false := by decide +kernel) : PE X (.Name x pos) (tC v) := by
  obtain ⟨u, h, r⟩ := h
  exact pe_glob hg h r hd
theorem call_intB {X : Cx} : CallR X (.type "int") (fun xs H Q => ∃ k, xs = [.bl k] ∧ Q (.int (if k = true then 1 else 0)) H) := fun pins s σ H xs us Q I r h => call_int1 pins s σ H xs us Q I r (.inr h)
theorem cut_lo_len (z : Str) {k : Int} (h : 0 ≤ k) : (cutS z none (some k)).length ≤ k.toNat := by
  show (List.toArray _).size ≤ _
  rw [List.size_toArray, List.length_take]
  show min (HT.sIx z.length z.length (some k) - 0) _ ≤ _
  have e : HT.sIx z.length z.length (some k) = min k.toNat z.length := by
    show (if k < 0 then (k + (z.length : Int)).toNat else min k.toNat z.length) = _
    rw [if_neg (by omega)]
  omega
theorem cut_hi_len (z : Str) {k : Int} (h : 0 ≤ k) : (cutS z (some k) none).length ≤ z.length - k.toNat := by
  show (List.toArray _).size ≤ _
  have e : HT.sIx z.length 0 (some k) = min k.toNat z.length := by
    show (if k < 0 then (k + (z.length : Int)).toNat else min k.toNat z.length) = _
    rw [if_neg (by omega)]
  rw [List.size_toArray, List.length_take, List.length_drop, e]
  show min (z.length - min k.toNat z.length) (z.cps.toList.length - min k.toNat z.length) ≤ _
  have : z.cps.toList.length = z.length := Array.length_toList
  omega
end Vx
namespace Vx
open PySem PySem.Spec PyProof.Rows L2
/-! ### pairs and lists of them -/
abbrev Pr := Int × Int
def pr (l : List Int) : Pr := (l.getD 0 0, l.getD 1 0)
def Cells (H : Hp) (l : Addr) (ps : List Pr) : Prop :=
  ∃ ts : List (Addr × Pr), H l = some (.lst (ts.map fun t => V.ref t.1)) ∧ (∀ t ∈ ts, H t.1 = some (.tup [.int t.2.1, .int t.2.2])) ∧ ts.map (·.2) = ps
theorem Cells.up {H H' : Hp} {l : Addr} {ps : List Pr} (e : Same H H') (h : Cells H l ps) : Cells H' l ps := by
  obtain ⟨ts, h1, h2, h3⟩ := h
  exact ⟨ts, e _ _ h1, fun t m => e _ _ (h2 t m), h3⟩
def SetP (P : Program) (w : World) (H : Hp) (a : Addr) (ps : List Pr) : Prop :=
  ∃ L : List (Addr × List Int), H a = some (SetTO P w a L) ∧ (∀ q ∈ L, q.2.length = 2 ∧ H q.1 = some (.tup (q.2.map V.int))) ∧ ∀ x, x ∈ L.map (fun q => pr q.2) ↔ x ∈ ps
abbrev ltP (p q : Pr) : Prop := SrtO.lexB p q = true
theorem pr_inj : ∀ {l m : List Int}, l.length = 2 → m.length = 2 → pr l = pr m → l = m
  | [a, b], [c, d], _, _, h => by
    have h1 : a = c := congrArg Prod.fst h
    have h2 : b = d := congrArg Prod.snd h
    rw [h1, h2]
theorem len2 : ∀ {l : List Int}, l.length = 2 → l = [(pr l).1, (pr l).2]
  | [a, b], _ => rfl
section
variable {P : Program} {w : World} {A : Around} {E : Value → Shared → Prop} {s : Shared}
def adr : Value → Addr
  | .ref a => a
  | _ => 0
/-- the set's members, sorted -/
theorem sorted_pairs {a : Addr} {L : List (Addr × List Int)} {es : Array (Int × Value)} {ep : Nat} {t : SetTable} {Q : Value → Shared → Prop} (R : SetTR P w s.heap a L es ep t) (hh : A.handled = none) (h2 : ∀ q ∈ L, q.2.length = 2)
    (hQ : ∀ s' p (ts : List (Addr × Pr)) (c : Nat), (∀ b o, s.heap.get? b = some o → s'.heap.get? b = some o) → s'.gens = s.gens → s'.os = s.os → s.heap.objs.size ≤ p →
      s'.heap.get? p = some (seqObj "list" (ts.map fun q => Value.ref q.1).toArray c) → (∀ q ∈ ts, ∃ r ∈ L, r.1 = q.1 ∧ pr r.2 = q.2) → (∀ x, x ∈ ts.map (·.2) ↔ x ∈ L.map fun q => pr q.2) → (ts.map (·.2)).Pairwise ltP → ts.length = L.length → Q (.ref p) s') :
    wpAny (model P w) A (call (.builtin "sorted") [.ref a]) Q E s := by
  have few := R.few
  obtain ⟨o, go, xo, dat⟩ := R.ob
  refine Calls.call_function_entry kind_sorted plain_sorted entry_sorted (args_sorted1 _) ?_
  unfold Builtin.«sorted»
  refine wpAny_bind (m := checkCount "sorted" 1 1 _) (wpAny_pure ?_)
  refine wpAny_bind (collect_set (A := A.in1) hh ⟨o, go, xo.1, dat⟩ R.fits (by rw [R.size]; unfold scanBound; omega) R.tab.ris R.led fun s1 vs keep sz gg oo pm => ?_)
  have em : es.toList.map (·.2) = L.map fun q => Value.ref q.1 := by
    rw [R.rows]
    show (L.map fun q => (thash P w q.2, Value.ref q.1)).map (·.2) = _
    rw [List.map_map] <;> rfl
  rw [em] at pm
  have vl : vs.length = L.length := by rw [pm.length_eq, List.length_map]
  have lim : vs.length ≤ sizeLine := by
    rw [sizeLine_eq]
    omega
  refine wpAny_bind (wpAny_newList ?_ lim)
  have gl : (s1.heap.push (seqObj "list" vs.toArray 0)).get? s1.heap.objs.size = some (seqObj "list" vs.toArray 0) := Heap.get?_push_size _ rfl
  generalize hh1 : s1.heap.push (seqObj "list" vs.toArray 0) = h1 at gl
  have keep1 : ∀ b u, s1.heap.get? b = some u → h1.get? b = some u := fun b u e => by
    rw [← hh1]
    exact Heap.get?_push_of_some _ e
  have tin : ∀ q ∈ L, TS.TupInts h1 (.ref q.1) q.2 := fun q m => tupInts_of (P := P) (w := w) (isT_keep (R.tup q m) fun b u e => keep1 b u (keep b u e))
  have mem : ∀ v ∈ vs, ∃ q ∈ L, v = Value.ref q.1 := fun v m => by
    obtain ⟨q, m1, e⟩ := List.mem_map.mp (pm.mem_iff.mp m)
    exact ⟨q, m1, e.symm⟩
  have key : ∀ q ∈ L, pr (TS.intsOf h1 (.ref q.1)) = pr q.2 := fun q m => by rw [(tin q m).ints]
  have isP : ∀ v ∈ vs, Srt.IsPair h1 v (pr (TS.intsOf h1 v)).1 (pr (TS.intsOf h1 v)).2 := fun v m => by
    obtain ⟨q, m1, rfl⟩ := mem v m
    rw [key q m1]
    have i := tin q m1
    have l2 := len2 (h2 q m1)
    rw [l2] at i
    obtain ⟨b, items, eb, ⟨o1, go1, co1, n1, do1⟩, ia⟩ := i
    cases eb
    obtain ⟨xs⟩ := items
    cases ia with
    | cons _ t1 ia =>
      cases ia with
      | cons _ t2 ia =>
        cases ia
        exact ⟨_, o1, t1, t2, n1, rfl, go1, co1, do1⟩
  refine wpAny_bind (wpAny_holding (wpAny_call_entry (s := { s1 with heap := h1 }) slot_list_sort ⟨_, gl, rfl⟩ entry_list_sort (SrtO.list_sort_ord (s := { s1 with heap := h1 }) (SrtO.swo_lex fun v => pr (TS.intsOf h1 v)) gl lim (fun two => SrtO.pairs_sortableO (by omega) isP fun o1 e => ?_) fun out srt stb => ⟨_, rfl, ?_⟩) (args_list_sort _)))
  · have e' : some o1 = some (seqObj "list" vs.toArray 0) := e.symm.trans gl
    cases e'
    intro c
    exact absurd (Value.type.inj c) (by decide)
  · obtain ⟨c, gc⟩ := sortedHeap_at (vs := vs) (out := out.toArray) gl
    have omem : ∀ v ∈ out, ∃ q ∈ L, v = Value.ref q.1 := fun v m => mem v (stb.perm.mem_iff.mp m)
    refine wpAny_pure ⟨_, rfl, hQ _ s1.heap.objs.size (out.map fun v => (adr v, pr (TS.intsOf h1 v))) c (fun b u e => ?_) gg oo sz ?_ ?_ ?_ ?_ ?_⟩
    · have g1 := keep b u e
      have lt1 := Heap.lt_size g1
      show (sortedHeap h1 s1.heap.objs.size vs out.toArray).get? b = some u
      rw [sortedHeap_old (Nat.ne_of_lt lt1) (Heap.lt_size (keep1 b u g1))]
      exact keep1 b u g1
    · have eo : (out.map fun v => (adr v, pr (TS.intsOf h1 v))).map (fun q => Value.ref q.1) = out := by
        rw [List.map_map]
        refine (List.map_congr_left fun v m => ?_).trans (List.map_id _)
        obtain ⟨q, _, rfl⟩ := omem v m
        rfl
      rw [eo]
      exact gc
    · intro q m
      obtain ⟨v, m1, rfl⟩ := List.mem_map.mp m
      obtain ⟨r, mr, rfl⟩ := omem v m1
      exact ⟨r, mr, rfl, (key r mr).symm⟩
    · intro x
      rw [List.map_map]
      constructor
      · intro m
        obtain ⟨v, m1, rfl⟩ := List.mem_map.mp m
        obtain ⟨r, mr, rfl⟩ := omem v m1
        exact List.mem_map.mpr ⟨r, mr, (key r mr).symm⟩
      · intro m
        obtain ⟨r, mr, rfl⟩ := List.mem_map.mp m
        exact List.mem_map.mpr ⟨.ref r.1, stb.perm.mem_iff.mpr (pm.mem_iff.mpr (List.mem_map.mpr ⟨r, mr, rfl⟩)), key r mr⟩
    · rw [List.map_map]
      have nd : ((L.map fun q => Value.ref q.1).map fun v => pr (TS.intsOf h1 v)).Nodup := by
        rw [List.map_map]
        refine List.pairwise_map.mpr ((List.pairwise_map.mp R.nd).imp_of_mem fun {q r} mq mr ne e => ne ?_)
        refine pr_inj (h2 q mq) (h2 r mr) ?_
        rw [← key q mq, ← key r mr]
        exact e
      have nd2 : (out.map fun v => pr (TS.intsOf h1 v)).Nodup := ((stb.perm.trans pm).map _).nodup_iff.mpr nd
      refine List.pairwise_map.mpr ((srt.and (List.pairwise_map.mp nd2)).imp fun {u v} h => ?_)
      have a1 := SrtO.lexB_no.mp h.1
      refine SrtO.lexB_iff.mpr ?_
      have a2 : ¬ ((pr (TS.intsOf h1 u)).1 = (pr (TS.intsOf h1 v)).1 ∧ (pr (TS.intsOf h1 u)).2 = (pr (TS.intsOf h1 v)).2) := fun e => h.2 (Prod.ext e.1 e.2)
      show (pr (TS.intsOf h1 u)).1 < (pr (TS.intsOf h1 v)).1 ∨ (pr (TS.intsOf h1 u)).1 = (pr (TS.intsOf h1 v)).1 ∧ (pr (TS.intsOf h1 u)).2 < (pr (TS.intsOf h1 v)).2
      omega
    · rw [List.length_map, stb.perm.length_eq, vl]
end
section
variable {X : Cx}
theorem cr_setP (hc : X.calm = true) (hu : X.A.units + 64 < cLine) : CallR X (.type "set") (fun xs H Q => ∃ l ps, xs = [V.ref l] ∧ Cells H l ps ∧ ps.length < 64 ∧
    ∀ a H', Same H H' → H a = none → SetP X.prog X.w H' a ps → Q (.ref a) H') := by
  intro pins s σ H xs us Q I r h
  obtain ⟨l, ps, rfl, ⟨ts, hl, ht, rfl⟩, few, q⟩ := h
  rw [List.length_map] at few
  refine cr_setOfT hc hu pins s σ H [V.ref l] us Q I r ⟨l, ts.map fun t => (t.1, [t.2.1, t.2.2]), rfl, ?_, ?_, by rw [List.length_map]; exact few, fun a L n sub all => ?_⟩
  · rw [List.map_map]
    exact lst_of hl
  · intro p m
    obtain ⟨t, m1, rfl⟩ := List.mem_map.mp m
    exact tup_of (ht t m1)
  · refine q a _ (newS n) n ⟨L, upd_same, fun p m => ?_, fun x => ⟨fun m => ?_, fun m => ?_⟩⟩
    · obtain ⟨t, m1, rfl⟩ := List.mem_map.mp (sub p m)
      exact ⟨rfl, newS n _ _ (ht t m1)⟩
    · obtain ⟨p, m1, rfl⟩ := List.mem_map.mp m
      obtain ⟨t, m2, rfl⟩ := List.mem_map.mp (sub p m1)
      exact List.mem_map.mpr ⟨t, m2, rfl⟩
    · obtain ⟨t, m1, rfl⟩ := List.mem_map.mp m
      obtain ⟨p, m2, e⟩ := List.mem_map.mp (all _ (List.mem_map.mpr ⟨t, m1, rfl⟩))
      refine List.mem_map.mpr ⟨p, m2, ?_⟩
      rw [e]
      rfl
theorem cr_sortedP (hc : X.calm = true) : CallR X (.builtin "sorted") (fun xs H Q => ∃ a ps, xs = [V.ref a] ∧ SetP X.prog X.w H a ps ∧
    ∀ p H' qs, Same H H' → H p = none → Cells H' p qs → qs.Pairwise ltP → (∀ x, x ∈ qs ↔ x ∈ ps) → qs.length < 64 → Q (.ref p) H') := by
  intro pins s σ H vs us Q I r h
  obtain ⟨a, ps, rfl, ⟨L, ha, hL, mem⟩, q⟩ := h
  have R0 : SetT0 X.prog X.w s.heap a L := (I.hok a _ ha).1
  obtain ⟨es, ep, t, R⟩ := R0.full fun p hp => I.isT (tup_of (hL p hp).2)
  rw [Vals.ref1 r]
  refine sorted_pairs R (I.ok.hd hc) (fun q m => (hL q m).1) fun s' p ts c k g o hp hg own all pw le => ?_
  have few := R.few
  have lim : (ts.map fun q => V.ref q.1).length ≤ sizeLine := by
    rw [List.length_map, sizeLine_eq]
    omega
  have n : H p = none := I.hok.fresh hp
  have vals : ∀ ts : List (Addr × Pr), Vals (ts.map fun q => V.ref q.1) (ts.map fun q => Value.ref q.1) := fun ts => by
    induction ts with
    | nil => exact .nil
    | cons t ts ih => exact .cons rfl ih
  have J : Inv X pins σ (upd H p (.lst (ts.map fun q => V.ref q.1))) { s with heap := s'.heap, gens := s'.gens, drawn := s'.drawn, toks := s'.toks } :=
    I.call (ch := []) (Un.laid k hp n) (I.hok.laid k hp ⟨lim, _, c, vals ts, hg⟩) (by rw [g]; exact I.bare) (fun _ z => nomatch z)
  have e : s' = { s with heap := s'.heap, gens := s'.gens, drawn := s'.drawn, toks := s'.toks } := by
    obtain ⟨_, _, _, _, _⟩ := s'
    obtain ⟨_, _, _, _, _⟩ := s
    cases o
    rfl
  rw [e]
  have sm : Same H (upd H p (.lst (ts.map fun q => V.ref q.1))) := newS n
  refine ⟨.ref p, _, J, rfl, q p _ (ts.map (·.2)) sm n ⟨ts, upd_same, fun t m => ?_, rfl⟩ pw (fun x => (all x).trans (mem x)) (by rw [List.length_map, le]; exact few)⟩
  obtain ⟨r, mr, e1, e2⟩ := own t m
  have z := sm _ _ (hL r mr).2
  rw [len2 (hL r mr).1, e1, e2] at z
  exact z
end
section
variable {X : Cx}
theorem pg_tupK {K : PySem.W.Frag} {es : List Expr} {k : Nat} {t : TGs} {n : Nat} {pos : Pos} (hK : X.K = K) (hc : X.calm = true) (h : PGs X es t)
    (hn : (assignEach es X.env).length = n := by rfl) (hst : (assignEach es X.env).findIdx? (·.1) = none := by rfl) : PG X (.Tuple es k pos) (gTup K n t) := by
  subst hK
  exact pg_tup hc h hn hst
theorem ix_tupK {K : PySem.W.Frag} (hK : X.K = K) : IxR X (rIxT K) := by
  subst hK
  exact ix_tup
end
/-! ### comprehensions over such a list -/
theorem item_cells {H : Hp} {ts : List (Addr × Pr)} {ps : List Pr} {i : Nat} {x : V} (h : (ts.map fun t => V.ref t.1)[i]? = some x) (e : ts.map (·.2) = ps) :
    ∃ t ∈ ts, x = .ref t.1 ∧ ps[i]? = some t.2 := by
  rw [List.getElem?_map] at h
  cases q : ts[i]? with
  | none => rw [q] at h; cases h
  | some t =>
    rw [q] at h
    refine ⟨t, List.mem_of_getElem? q, (Option.some.inj h).symm, ?_⟩
    rw [← e, List.getElem?_map, q]
    rfl
theorem lc_cells {K : PySem.W.Frag} {l : Addr} {ps : List Pr} {g : TG} {tt : TT} {te : TE} {vs : List Nat} {σ : L2.St} {H1 : Hp} {D : Addr} {Qd : Hp → Prop} (f : Pr → Pr) (hC : Cells H1 l ps) (nD : H1 D = none) (few : ps.length < sizeLine)
    (hs : ∀ (t : Addr) (x : Pr) (H' : Hp) (Po : V → Hp → Prop) (Pn : Hp → Prop), Same H1 H' → H' t = some (.tup [.int x.1, .int x.2]) → (∀ t2, H' t2 = none → Po (.ref t2) (upd H' t2 (.tup [.int (f x).1, .int (f x).2]))) →
      g (.ref t) (wipe σ vs) H' fun σ2 H2 => wipe σ2 vs = wipe σ vs ∧ tt σ2 H2 fun b H3 => if b = true then te σ2 H3 Po else Pn H3)
    (hd : ∀ H', Same H1 H' → Cells H' D (ps.map f) → Qd H') :
    ∃ W : Nat → Nat → Hp → Prop, (∃ m, W 0 m (upd H1 D (.lst []))) ∧ ∀ i m H, W i m H →
      ((Itl K l).stop i H ∧ Qd H) ∨ ((Itl K l).go i H ∧ ∃ Nx : Hp → Prop, (∀ H', Nx H' → ∃ m', m' < m ∧ W (i + 1) m' H') ∧ ∀ x H', (Itl K l).yld i H x H' → g x (wipe σ vs) H' fun σ2 H2 => wipe σ2 vs = wipe σ vs ∧ tt σ2 H2 fun b H3 =>
        if b = true then te σ2 H3 fun y H4 => ∃ acc, H4 D = some (.lst acc) ∧ acc.length < sizeLine ∧ Nx (upd H4 D (.lst (acc ++ [y]))) else Nx H3) := by
  obtain ⟨ts, hl, ht, rfl⟩ := hC
  rw [List.length_map] at few
  refine lc_list (K := K) (a := l) (xs := ts.map fun t => V.ref t.1) (fun i H' => Same H1 H' ∧ ∃ us : List (Addr × Pr), H' D = some (.lst (us.map fun t => V.ref t.1)) ∧ (∀ t ∈ us, H' t.1 = some (.tup [.int t.2.1, .int t.2.2])) ∧ us.map (·.2) = ((ts.map (·.2)).take i).map f)
    ⟨newS nD, [], upd_same, fun _ m => (by cases m), rfl⟩ (fun i H' _ p => lst_of (p.1 _ _ hl)) ?_ ?_
  · rintro i x H' hi ⟨sm, us, h1, h2, h3⟩
    obtain ⟨t, mt, rfl, hp⟩ := item_cells (H := H') hi rfl
    have ul : us.length = i := by
      have z := congrArg List.length h3
      rw [List.length_map, List.length_map, List.length_take, List.length_map] at z
      have := (List.getElem?_eq_some_iff.mp hi).1
      rw [List.length_map] at this
      omega
    refine hs t.1 t.2 H' _ _ sm (sm _ _ (ht t mt)) fun t2 n2 => ⟨us.map fun t => V.ref t.1, ?_, ?_, ?_, us ++ [(t2, f t.2)], ?_, ?_, ?_⟩
    · exact newS n2 _ _ h1
    · rw [List.length_map, ul]
      have := (List.getElem?_eq_some_iff.mp hi).1
      rw [List.length_map] at this
      omega
    · exact mutS (sm.trans (newS n2)) nD
    · rw [upd_same, List.map_append]
      rfl
    · have nD2 : t2 ≠ D := fun e => by
        rw [e, h1] at n2
        cases n2
      intro u m
      rcases List.mem_append.mp m with m | m
      · have z := h2 u m
        rw [upd_ne (fun e => ?_)]
        · exact newS n2 _ _ z
        · rw [e, h1] at z
          cases z
      · rw [List.mem_singleton.mp m, upd_ne nD2, upd_same]
    · rw [List.map_append, h3, take_next hp, List.map_append]
      rfl
  · rintro H' ⟨sm, us, h1, h2, h3⟩
    refine hd H' sm ⟨us, h1, h2, ?_⟩
    rw [h3, List.length_map, List.take_of_length_le (by rw [List.length_map]; exact Nat.le_refl _)]
theorem lc_nums {K : PySem.W.Frag} {l : Addr} {ps : List Pr} {g : TG} {tt : TT} {te : TE} {vs : List Nat} {σ : L2.St} {H1 : Hp} {D : Addr} {Qd : Hp → Prop} (f : Pr → Int) (hC : Cells H1 l ps) (nD : H1 D = none) (few : ps.length < sizeLine)
    (hs : ∀ (t : Addr) (x : Pr) (H' : Hp) (Po : V → Hp → Prop) (Pn : Hp → Prop), Same H1 H' → H' t = some (.tup [.int x.1, .int x.2]) → Po (.int (f x)) H' →
      g (.ref t) (wipe σ vs) H' fun σ2 H2 => wipe σ2 vs = wipe σ vs ∧ tt σ2 H2 fun b H3 => if b = true then te σ2 H3 Po else Pn H3)
    (hd : ∀ H', Same H1 H' → H' D = some (.lst ((ps.map f).map V.int)) → Qd H') :
    ∃ W : Nat → Nat → Hp → Prop, (∃ m, W 0 m (upd H1 D (.lst []))) ∧ ∀ i m H, W i m H →
      ((Itl K l).stop i H ∧ Qd H) ∨ ((Itl K l).go i H ∧ ∃ Nx : Hp → Prop, (∀ H', Nx H' → ∃ m', m' < m ∧ W (i + 1) m' H') ∧ ∀ x H', (Itl K l).yld i H x H' → g x (wipe σ vs) H' fun σ2 H2 => wipe σ2 vs = wipe σ vs ∧ tt σ2 H2 fun b H3 =>
        if b = true then te σ2 H3 fun y H4 => ∃ acc, H4 D = some (.lst acc) ∧ acc.length < sizeLine ∧ Nx (upd H4 D (.lst (acc ++ [y]))) else Nx H3) := by
  obtain ⟨ts, hl, ht, rfl⟩ := hC
  rw [List.length_map] at few
  refine lc_list (K := K) (a := l) (xs := ts.map fun t => V.ref t.1) (fun i H' => Same H1 H' ∧ H' D = some (.lst ((((ts.map (·.2)).take i).map f).map V.int)))
    ⟨newS nD, upd_same⟩ (fun i H' _ p => lst_of (p.1 _ _ hl)) ?_ ?_
  · rintro i x H' hi ⟨sm, h1⟩
    obtain ⟨t, mt, rfl, hp⟩ := item_cells (H := H') hi rfl
    refine hs t.1 t.2 H' _ _ sm (sm _ _ (ht t mt)) ⟨_, h1, ?_, mutS sm nD, ?_⟩
    · rw [List.length_map, List.length_map, List.length_take, List.length_map]
      omega
    · rw [upd_same, take_next hp, List.map_append, List.map_append]
      rfl
  · rintro H' ⟨sm, h1⟩
    rw [List.length_map, List.take_of_length_le (by rw [List.length_map]; exact Nat.le_refl _)] at h1
    exact hd H' sm h1
/-! ### one such list -/
def CanP (ps qs : List Pr) : Prop := qs.Pairwise ltP ∧ ∀ x, x ∈ qs ↔ x ∈ ps
theorem ltP_iff {p q : Pr} : ltP p q ↔ p.1 < q.1 ∨ (p.1 = q.1 ∧ p.2 < q.2) := SrtO.lexB_iff
theorem ascP_eq : ∀ {l m : List Pr}, l.Pairwise ltP → m.Pairwise ltP → (∀ k, k ∈ l ↔ k ∈ m) → l = m
  | [], [], _, _, _ => rfl
  | [], y :: m, _, _, h => absurd ((h y).mpr List.mem_cons_self) (by simp)
  | x :: l, [], _, _, h => absurd ((h x).mp List.mem_cons_self) (by simp)
  | x :: l, y :: m, hl, hm, h => by
    obtain ⟨h1, h2⟩ := List.pairwise_cons.mp hl
    obtain ⟨h3, h4⟩ := List.pairwise_cons.mp hm
    have irr : ∀ a b : Pr, ltP a b → ltP b a → False := fun a b p q => by
      have p := ltP_iff.mp p
      have q := ltP_iff.mp q
      omega
    have e : x = y := by
      rcases List.mem_cons.mp ((h x).mp List.mem_cons_self) with e | e
      · exact e
      · rcases List.mem_cons.mp ((h y).mpr List.mem_cons_self) with e2 | e2
        · exact e2.symm
        · exact (irr _ _ (h3 _ e) (h1 _ e2)).elim
    subst e
    rw [ascP_eq h2 h4 fun k => ?_]
    have q := h k
    constructor
    · intro hk
      rcases List.mem_cons.mp (q.mp (List.mem_cons_of_mem _ hk)) with e | e
      · have z := h1 _ hk
        rw [e] at z
        exact (irr _ _ z z).elim
      · exact e
    · intro hk
      rcases List.mem_cons.mp (q.mpr (List.mem_cons_of_mem _ hk)) with e | e
      · have z := h3 _ hk
        rw [e] at z
        exact (irr _ _ z z).elim
      · exact e
theorem canP_eq {ps qs m : List Pr} (h : CanP ps qs) (h2 : m.Pairwise ltP) (h3 : ∀ k, k ∈ ps ↔ k ∈ m) : qs = m := ascP_eq h.1 h2 fun k => (h.2 k).trans (h3 k)
/-! ### as data -/
def pd (p : Pr) : PyData := .tuple [.int p.1, .int p.2]
theorem eqv_pd (p q : Pr) : PyData.eqv (pd p) (pd q) = decide (p = q) := by
  show ((p.1 == q.1) && ((p.2 == q.2) && true)) = _
  obtain ⟨a, b⟩ := p
  obtain ⟨c, d⟩ := q
  by_cases e1 : a = c <;> by_cases e2 : b = d <;> simp [e1, e2]
theorem eqvAll_pd : ∀ (l m : List Pr), PyData.eqvAll (l.map pd) (m.map pd) = decide (l = m)
  | [], [] => by simp [PyData.eqvAll]
  | [], y :: m => by simp [PyData.eqvAll]
  | x :: l, [] => by simp [PyData.eqvAll]
  | x :: l, y :: m => by
    show (PyData.eqv (pd x) (pd y) && PyData.eqvAll (l.map pd) (m.map pd)) = _
    rw [eqvAll_pd l m, eqv_pd]
    by_cases e : x = y <;> by_cases e2 : l = m <;> simp [e, e2]
theorem eqv_cells (l m : List Pr) : PyData.eqv (.list (l.map pd)) (.list (m.map pd)) = decide (l = m) := eqvAll_pd l m
theorem canAll_pd : ∀ l : List Pr, PyData.canLayAll0 (l.map pd) = true
  | [] => by simp [PyData.canLayAll0]
  | x :: l => by
    rw [List.map_cons]
    simp [PyData.canLayAll0, PyData.canLay0, pd, canAll_pd l]
theorem depAll_pd : ∀ l : List Pr, PyData.depthAll (l.map pd) ≤ 1
  | [] => by simp [PyData.depthAll]
  | x :: l => by
    rw [List.map_cons]
    have := depAll_pd l
    simp only [PyData.depthAll, PyData.depth, pd]
    omega
theorem shaped_cells (l : List Pr) : SeqAt.shaped (.list (l.map pd)) = true := by
  unfold SeqAt.shaped
  have := depAll_pd l
  simp only [PyData.canLay0, PyData.depth, canAll_pd]
  simp
  omega
theorem dp_cells {K : PySem.W.Frag} {H : Hp} {a : Addr} {ps : List Pr} (h : Cells H a ps) : Dp K H (.ref a) (.list (ps.map pd)) := by
  obtain ⟨ts, hl, ht, rfl⟩ := h
  refine .lst (lst_of hl) ?_
  have go : ∀ us : List (Addr × Pr), (∀ t ∈ us, H t.1 = some (.tup [.int t.2.1, .int t.2.2])) → DpAll K H (us.map fun t => V.ref t.1) ((us.map (·.2)).map pd) := fun us => by
    induction us with
    | nil => exact fun _ => .nil
    | cons t us ih => exact fun h => .cons (.tup (tup_of (h t List.mem_cons_self)) (.cons (.int _) (.cons (.int _) .nil))) (ih fun u m => h u (List.mem_cons_of_mem _ m))
  exact go ts ht
/-! ### sorted, of such a list -/
def kH (H : Hp) : V → Pr
  | .ref a => match H a with
    | some (.tup [.int x, .int y]) => (x, y)
    | _ => (0, 0)
  | _ => (0, 0)
def adV : V → Addr
  | .ref a => a
  | _ => 0
theorem kH_at {H : Hp} {a : Addr} {x : Pr} (h : H a = some (.tup [.int x.1, .int x.2])) : kH H (.ref a) = x := by
  show (match H a with
    | some (.tup [.int x, .int y]) => (x, y)
    | _ => (0, 0)) = x
  rw [h]
theorem ltP_irr {a b : Pr} (p : ltP a b) (q : ltP b a) : False := by
  have p := ltP_iff.mp p
  have q := ltP_iff.mp q
  omega
theorem nodup_lt {l : List Pr} (h : l.Pairwise ltP) : l.Nodup := h.imp fun {a b} q e => by
  subst e
  exact ltP_irr q q
theorem cr_sortedC {X : Cx} : CallR X (.builtin "sorted") (fun xs H Q => ∃ l ps, xs = [V.ref l] ∧ Cells H l ps ∧ ps.Nodup ∧
    ∀ p H' qs, Same H H' → H p = none → Cells H' p qs → CanP ps qs → qs.length = ps.length → Q (.ref p) H') := by
  intro pins s σ H xs us Q I r h
  obtain ⟨l, ps, rfl, ⟨ts, hl, ht, rfl⟩, nd, q⟩ := h
  refine cr_sortedPO pins s σ H [V.ref l] us Q I r ⟨l, ts.map fun t => V.ref t.1, kH H, rfl, lst_of hl, fun x m => ?_, fun ys p srt stb n => ?_⟩
  · obtain ⟨t, m1, rfl⟩ := List.mem_map.mp m
    have g := ht t m1
    refine ⟨t.1, rfl, ?_⟩
    rw [kH_at g]
    exact g
  · have own : ∀ y ∈ ys, ∃ t ∈ ts, y = V.ref t.1 := fun y m => by
      obtain ⟨t, m1, e⟩ := List.mem_map.mp (stb.perm.mem_iff.mp m)
      exact ⟨t, m1, e.symm⟩
    have key : ∀ t ∈ ts, kH H (.ref t.1) = t.2 := fun t m => kH_at (ht t m)
    have pm : (ys.map (kH H)).Perm (ts.map (·.2)) := by
      have z := stb.perm.map (kH H)
      rw [List.map_map] at z
      rw [show ts.map (·.2) = ts.map (kH H ∘ fun t => V.ref t.1) from List.map_congr_left fun t m => (key t m).symm]
      exact z
    have sm : Same H (upd H p (.lst ys)) := newS n
    have eo : (ys.map fun v => (adV v, kH H v)).map (fun t => V.ref t.1) = ys := by
      rw [List.map_map]
      refine (List.map_congr_left fun v m => ?_).trans (List.map_id _)
      obtain ⟨t, _, rfl⟩ := own v m
      rfl
    refine q p _ (ys.map (kH H)) sm n ⟨ys.map fun v => (adV v, kH H v), ?_, fun u m => ?_, ?_⟩ ⟨?_, fun x => pm.mem_iff⟩ pm.length_eq
    · rw [eo, upd_same]
    · obtain ⟨v, m1, rfl⟩ := List.mem_map.mp m
      obtain ⟨t, m2, rfl⟩ := own v m1
      refine sm _ _ ?_
      show H t.1 = _
      rw [key t m2]
      exact ht t m2
    · rw [List.map_map]
      rfl
    · have nd2 : (ys.map (kH H)).Nodup := pm.nodup_iff.mpr nd
      refine List.pairwise_map.mpr ((srt.and (List.pairwise_map.mp nd2)).imp fun {u v} h => ?_)
      have a1 := SrtO.lexB_no.mp h.1
      have a2 : ¬ ((kH H u).1 = (kH H v).1 ∧ (kH H u).2 = (kH H v).2) := fun e => h.2 (Prod.ext e.1 e.2)
      refine ltP_iff.mpr ?_
      omega
/-! ### dicts whose keys are such pairs -/
def keyP (x : Pr) : List L2.Key := [Sum.inl x.1, Sum.inl x.2]
theorem keyP_inj {x y : Pr} (h : keyP x = keyP y) : x = y := by
  injection h with h1 h2
  injection h2 with h2 _
  exact Prod.ext (Sum.inl.inj h1) (Sum.inl.inj h2)
def KeysP (kvs : List (List L2.Key × V)) (ps : List Pr) : Prop := kvs.map (·.1) = ps.map keyP ∧ ps.Nodup
theorem KeysP.put {kvs : List (List L2.Key × V)} {ps : List Pr} (h : KeysP kvs ps) (x : Pr) (v : V) :
    ∃ qs, KeysP (putK kvs (keyP x) v) qs ∧ qs.length ≤ ps.length + 1 ∧ ∀ y, y ∈ qs ↔ y ∈ ps ∨ y = x := by
  have mem : (kvs.any fun kv => decide (kv.1 = keyP x)) = true ↔ x ∈ ps := by
    rw [List.any_eq_true]
    constructor
    · rintro ⟨kv, m, e⟩
      have m2 : kv.1 ∈ ps.map keyP := by
        rw [← h.1]
        exact List.mem_map.mpr ⟨kv, m, rfl⟩
      obtain ⟨y, my, ey⟩ := List.mem_map.mp m2
      rw [← keyP_inj (ey.trans (of_decide_eq_true e))]
      exact my
    · intro m
      have m2 : keyP x ∈ kvs.map (·.1) := by
        rw [h.1]
        exact List.mem_map.mpr ⟨x, m, rfl⟩
      obtain ⟨kv, mk, e⟩ := List.mem_map.mp m2
      exact ⟨kv, mk, decide_eq_true e⟩
  by_cases c : x ∈ ps
  · refine ⟨ps, ⟨?_, h.2⟩, by omega, fun y => ⟨.inl, fun z => z.elim id fun e => e ▸ c⟩⟩
    unfold putK
    rw [if_pos (mem.mpr c), List.map_map, ← h.1]
    refine List.map_congr_left fun kv _ => ?_
    show (if kv.1 = keyP x then (kv.1, v) else kv).1 = kv.1
    by_cases e : kv.1 = keyP x
    · rw [if_pos e]
    · rw [if_neg e]
  · refine ⟨ps ++ [x], ⟨?_, ?_⟩, by rw [List.length_append]; exact Nat.le_refl _, fun y => by rw [List.mem_append, List.mem_singleton]⟩
    · unfold putK
      rw [if_neg (fun z => c (mem.mp z)), List.map_append, List.map_append, h.1]
      rfl
    · refine List.pairwise_append.mpr ⟨h.2, List.pairwise_cons.mpr ⟨fun _ m => (by cases m), List.Pairwise.nil⟩, fun a ma b mb e => ?_⟩
      rw [List.mem_singleton.mp mb] at e
      exact c (e ▸ ma)
theorem KeysP.len {kvs : List (List L2.Key × V)} {ps : List Pr} (h : KeysP kvs ps) : kvs.length = ps.length := by
  have z := congrArg List.length h.1
  rw [List.length_map, List.length_map] at z
  exact z
theorem KeysP.at {kvs : List (List L2.Key × V)} {ps : List Pr} (h : KeysP kvs ps) {i : Nat} {k : List L2.Key} {v : V} (e : kvs[i]? = some (k, v)) : ∃ x, ps[i]? = some x ∧ k.map kV = [.int x.1, .int x.2] := by
  have z := congrArg (fun l => l[i]?) h.1
  simp only [List.getElem?_map] at z
  rw [e] at z
  cases q : ps[i]? with
  | none => rw [q] at z; cases z
  | some x =>
    rw [q] at z
    refine ⟨x, rfl, ?_⟩
    have : k = keyP x := Option.some.inj z
    rw [this]
    rfl
/-- the keys of such a dict, listed -/
theorem lc_keysP {d : Addr} {od : Obj} {kvs : List (List L2.Key × V)} {ps : List Pr} {vs : List Nat} {σ : L2.St} {H1 : Hp} {D : Addr} {Qd : Hp → Prop} {g : TG} {tt : TT} {te : TE} (hK : KeysP kvs ps) (hD : H1 d = some (.frz od (.dT kvs))) (nD : H1 D = none) (few : ps.length < sizeLine)
    (hs : ∀ (t : Addr) (x : Pr) (H' : Hp) (Po : V → Hp → Prop) (Pn : Hp → Prop), H' t = some (.tup [.int x.1, .int x.2]) → Po (.ref t) H' →
      g (.ref t) (wipe σ vs) H' fun σ2 H2 => wipe σ2 vs = wipe σ vs ∧ tt σ2 H2 fun b H3 => if b = true then te σ2 H3 Po else Pn H3)
    (hd : ∀ H', Same H1 H' → Cells H' D ps → Qd H') :
    ∃ W : Nat → Nat → Hp → Prop, (∃ m, W 0 m (upd H1 D (.lst []))) ∧ ∀ i m H, W i m H →
      ((Itkt d od kvs).stop i H ∧ Qd H) ∨ ((Itkt d od kvs).go i H ∧ ∃ Nx : Hp → Prop, (∀ H', Nx H' → ∃ m', m' < m ∧ W (i + 1) m' H') ∧ ∀ x H', (Itkt d od kvs).yld i H x H' → g x (wipe σ vs) H' fun σ2 H2 => wipe σ2 vs = wipe σ vs ∧ tt σ2 H2 fun b H3 =>
        if b = true then te σ2 H3 fun y H4 => ∃ acc, H4 D = some (.lst acc) ∧ acc.length < sizeLine ∧ Nx (upd H4 D (.lst (acc ++ [y]))) else Nx H3) := by
  have len := hK.len
  refine lc_it walk_keysT (fun i H' => Same H1 H' ∧ ∃ us : List (Addr × Pr), H' D = some (.lst (us.map fun t => V.ref t.1)) ∧ (∀ t ∈ us, H' t.1 = some (.tup [.int t.2.1, .int t.2.2])) ∧ us.map (·.2) = ps.take i)
    ⟨newS nD, [], upd_same, fun _ m => (by cases m), rfl⟩ (fun i H' _ p => p.1 _ _ hD) ?_ ?_
  · rintro i x H' H2 hi ⟨sm, us, h1, h2, h3⟩ ⟨rfl, k, v, q, e, rfl, hq⟩
    obtain ⟨y, hy, ek⟩ := hK.at e
    rw [ek] at hq
    have ul : us.length = i := by
      have z := congrArg List.length h3
      rw [List.length_map, List.length_take] at z
      omega
    refine hs q y _ _ _ hq ⟨_, h1, ?_, mutS sm nD, us ++ [(q, y)], ?_, ?_, ?_⟩
    · rw [List.length_map]
      omega
    · rw [upd_same, List.map_append]
      rfl
    · intro u m
      have off : ∀ z : Addr × Pr, H2 z.1 = some (.tup [.int z.2.1, .int z.2.2]) → upd H2 D (.lst ((us.map fun t => V.ref t.1) ++ [V.ref q])) z.1 = some (.tup [.int z.2.1, .int z.2.2]) := fun z g => by
        rw [upd_ne (fun e => ?_)]
        · exact g
        · rw [e, h1] at g
          cases g
      rcases List.mem_append.mp m with m | m
      · exact off u (h2 u m)
      · rw [List.mem_singleton.mp m]
        exact off (q, y) hq
    · rw [List.map_append, h3, take_next hy]
      rfl
  · rintro H' ⟨sm, us, h1, h2, h3⟩
    refine hd H' sm ⟨us, h1, h2, ?_⟩
    rw [h3, List.take_of_length_le (by omega)]
/-- such a list outlives a change of an object that is no tuple and not the list -/
theorem Cells.mut {H : Hp} {l d : Addr} {ps : List Pr} {o : HO} (h : Cells H l ps) (ne : l ≠ d) (nt : ∀ xs, H d ≠ some (.tup xs)) : Cells (upd H d o) l ps := by
  obtain ⟨ts, h1, h2, h3⟩ := h
  refine ⟨ts, by rw [upd_ne ne]; exact h1, fun t m => ?_, h3⟩
  rw [upd_ne (fun e => nt _ (e ▸ h2 t m))]
  exact h2 t m
theorem cells_mk {H : Hp} {l : Addr} (us : List (Addr × Pr)) (h : H l = some (.lst (us.map fun t => V.ref t.1))) (ht : ∀ u ∈ us, H u.1 = some (.tup [.int u.2.1, .int u.2.2])) : Cells H l (us.map (·.2)) := ⟨us, h, ht, rfl⟩
def cutT {α : Type} (ts : List α) (lo hi : Option Int) : List α := (ts.drop (HT.sIx ts.length 0 lo)).take (HT.sIx ts.length ts.length hi - HT.sIx ts.length 0 lo)
theorem cutV_map {α : Type} (f : α → V) (ts : List α) (lo hi : Option Int) : cutV (ts.map f) lo hi = (cutT ts lo hi).map f := by
  unfold cutV cutT
  rw [List.length_map, List.map_take, List.map_drop]
theorem cutT_mem {α : Type} {ts : List α} {lo hi : Option Int} {x : α} (h : x ∈ cutT ts lo hi) : x ∈ ts := List.mem_of_mem_drop (List.mem_of_mem_take h)
theorem cutT_len {α : Type} (ts : List α) (lo hi : Option Int) : (cutT ts lo hi).length ≤ ts.length := by
  unfold cutT
  rw [List.length_take, List.length_drop]
  omega
theorem eq_cells {l m : List Pr} (h : l = m) : V.bl (PyData.eqv (.list (l.map pd)) (.list (m.map pd))) = V.bl true := by
  rw [eqv_cells, decide_eq_true h]
theorem ne_cells {l m : List Pr} (h : l = m) : V.bl (!PyData.eqv (.list (l.map pd)) (.list (m.map pd))) = V.bl false := by
  rw [eqv_cells, decide_eq_true h] <;> rfl
theorem pw_map {f : Pr → Pr} (hf : ∀ x y, ltP x y → ltP (f x) (f y)) {l : List Pr} (h : l.Pairwise ltP) : (l.map f).Pairwise ltP := List.pairwise_map.mpr (h.imp fun {x y} q => hf x y q)
theorem nodup_map {f : Pr → Pr} (hf : ∀ x y, f x = f y → x = y) {l : List Pr} (h : l.Nodup) : (l.map f).Nodup := List.pairwise_map.mpr (h.imp fun {x y} q e => q (hf x y e))
theorem mem_map2 {f : Pr → Pr} {l m : List Pr} (h : ∀ x, x ∈ l ↔ x ∈ m) (k : Pr) : k ∈ l.map f ↔ k ∈ m.map f := by
  rw [List.mem_map, List.mem_map]
  exact ⟨fun ⟨x, m1, e⟩ => ⟨x, (h x).mp m1, e⟩, fun ⟨x, m1, e⟩ => ⟨x, (h x).mpr m1, e⟩⟩
theorem wipe2 (σ : L2.St) (i j : Nat) (a b : Option V) : wipe (((wipe σ [i, j]).set i a).set j b) [i, j] = wipe σ [i, j] := by
  refine List.ext_getElem? fun k => ?_
  show ((((((σ.set j none).set i none).set i a).set j b).set j none).set i none)[k]? = ((σ.set j none).set i none)[k]?
  simp only [List.getElem?_set, List.length_set]
  by_cases e1 : i = k <;> by_cases e2 : j = k <;> by_cases e3 : k < σ.length <;> simp [e1, e2, e3]
end Vx
namespace Vx
open PySem PySem.Spec PyProof.Rows L2
section
variable {X : Cx}
/-- xs[j], read for xs[j] op= v -/
theorem pget_list : PGet X (fun o i H Q => ∃ p xs j v, o = .ref p ∧ i = .int ((j : Nat) : Int) ∧ SqL X.K H p xs ∧ xs[j]? = some v ∧ Q v H) := by
  intro pins s σ H o i ov iv Q I ro ri h
  obtain ⟨p, xs, j, v, rfl, rfl, hs, hv, q⟩ := h
  cases ro
  obtain ⟨t, rfl⟩ := ri
  obtain ⟨its, r, pl, hz⟩ := I.list hs
  obtain ⟨w, ew, rw'⟩ := r.get hv
  exact getItem_listL pl.isList (by omega) (by have := line63; have := (List.getElem?_eq_some_iff.mp hv).1; omega) (by simpa using ew) ⟨v, H, I, rw', q⟩
theorem ip_addS : PIp X .Add (fun x y H Q => ∃ i j, x = .str i ∧ y = .str j ∧ i.length + j.length ≤ sizeLine ∧ Q (.str (i ++ j)) H) := fun pins s σ H x y v u Q I r1 r2 h => iop_add_str pins s σ H x y v u Q I r1 r2 h
end
theorem lc_pairs {lo : Int} {n : Nat} {g : TG} {tt : TT} {te : TE} {vs : List Nat} {σ : L2.St} {H1 : Hp} {D : Addr} {Qd : Hp → Prop} (f : Nat → Pr) (nD : H1 D = none) (few : n < sizeLine)
    (hs : ∀ (i : Nat) (H' : Hp) (Po : V → Hp → Prop) (Pn : Hp → Prop), i < n → Same H1 H' → (∀ t2, H' t2 = none → Po (.ref t2) (upd H' t2 (.tup [.int (f i).1, .int (f i).2]))) →
      g (.int (lo + i)) (wipe σ vs) H' fun σ2 H2 => wipe σ2 vs = wipe σ vs ∧ tt σ2 H2 fun b H3 => if b = true then te σ2 H3 Po else Pn H3)
    (hd : ∀ (H' : Hp) (us : List (Addr × Pr)), Same H1 H' → H' D = some (.lst (us.map fun t => V.ref t.1)) → (∀ t ∈ us, H' t.1 = some (.tup [.int t.2.1, .int t.2.2])) → us.map (·.2) = (List.range n).map f → Qd H') :
    ∃ W : Nat → Nat → Hp → Prop, (∃ m, W 0 m (upd H1 D (.lst []))) ∧ ∀ i m H, W i m H →
      ((Itr lo n).stop i H ∧ Qd H) ∨ ((Itr lo n).go i H ∧ ∃ Nx : Hp → Prop, (∀ H', Nx H' → ∃ m', m' < m ∧ W (i + 1) m' H') ∧ ∀ x H', (Itr lo n).yld i H x H' → g x (wipe σ vs) H' fun σ2 H2 => wipe σ2 vs = wipe σ vs ∧ tt σ2 H2 fun b H3 =>
        if b = true then te σ2 H3 fun y H4 => ∃ acc, H4 D = some (.lst acc) ∧ acc.length < sizeLine ∧ Nx (upd H4 D (.lst (acc ++ [y]))) else Nx H3) := by
  refine lc_range (lo := lo) (n := n) (fun i H' => Same H1 H' ∧ ∃ us : List (Addr × Pr), H' D = some (.lst (us.map fun t => V.ref t.1)) ∧ (∀ t ∈ us, H' t.1 = some (.tup [.int t.2.1, .int t.2.2])) ∧ us.map (·.2) = (List.range i).map f)
    ⟨newS nD, [], upd_same, fun _ m => (by cases m), rfl⟩ ?_ ?_
  · rintro i H' hi ⟨sm, us, h1, h2, h3⟩
    have ul : us.length = i := by
      have z := congrArg List.length h3
      rw [List.length_map, List.length_map, List.length_range] at z
      exact z
    refine hs i H' _ _ hi sm fun t2 n2 => ⟨us.map fun t => V.ref t.1, newS n2 _ _ h1, ?_, mutS (sm.trans (newS n2)) nD, us ++ [(t2, f i)], ?_, ?_, ?_⟩
    · rw [List.length_map, ul]
      omega
    · rw [upd_same, List.map_append]
      rfl
    · have nD2 : t2 ≠ D := fun e => by
        rw [e, h1] at n2
        cases n2
      intro u m
      rcases List.mem_append.mp m with m | m
      · have z := h2 u m
        rw [upd_ne (fun e => ?_)]
        · exact newS n2 _ _ z
        · rw [e, h1] at z
          cases z
      · rw [List.mem_singleton.mp m, upd_ne nD2, upd_same]
    · rw [List.map_append, h3, List.range_succ, List.map_append]
      rfl
  · rintro H' ⟨sm, us, h1, h2, h3⟩
    exact hd H' us sm h1 h2 h3
/-- a pair in a list of pairs -/
theorem any_pd (p : Pr) : ∀ ps : List Pr, (ps.map pd).any (fun z => PyData.eqv z (pd p)) = decide (p ∈ ps)
  | [] => by simp
  | q :: ps => by
    rw [List.map_cons, List.any_cons, any_pd p ps, eqv_pd]
    by_cases e : q = p
    · subst e
      simp
    · have e2 : ¬ p = q := fun z => e z.symm
      simp [e, e2]
theorem shaped_pd (p : Pr) : SeqAt.shaped (pd p) = true := by
  unfold SeqAt.shaped pd
  simp [PyData.canLay0, PyData.canLayAll0, PyData.depth, PyData.depthAll]
theorem op_inP {X : Cx} (hu : X.A.units + 65 < cLine) : OpR X (compareOp .In) (fun x y H Q => ∃ (t a : Addr) (p : Pr) (ps : List Pr), x = .ref t ∧ y = .ref a ∧ H t = some (.tup [.int p.1, .int p.2]) ∧ Cells H a ps ∧ Q (.bl (decide (p ∈ ps))) H) := by
  intro pins s σ H x y v u Q I rx ry h
  obtain ⟨t, a, p, ps, rfl, rfl, ht, hc, q⟩ := h
  refine op_inD hu pins s σ H _ _ v u Q I rx ry ⟨pd p, ps.map pd, .tup (tup_of ht) (.cons (.int _) (.cons (.int _) .nil)), dp_cells hc, shaped_pd p, shaped_cells ps, ?_⟩
  rw [any_pd]
  exact q
/-- sorted, of a list of pairs that may hold one several times -/
theorem cr_sortedN {X : Cx} : CallR X (.builtin "sorted") (fun xs H Q => ∃ l ps, xs = [V.ref l] ∧ Cells H l ps ∧
    ∀ p H' qs, Same H H' → H p = none → Cells H' p qs → qs.Perm ps → qs.Pairwise (fun x y => ¬ ltP y x) → Q (.ref p) H') := by
  intro pins s σ H xs us Q I r h
  obtain ⟨l, ps, rfl, ⟨ts, hl, ht, rfl⟩, q⟩ := h
  refine cr_sortedPO pins s σ H [V.ref l] us Q I r ⟨l, ts.map fun t => V.ref t.1, kH H, rfl, lst_of hl, fun x m => ?_, fun ys p srt stb n => ?_⟩
  · obtain ⟨t, m1, rfl⟩ := List.mem_map.mp m
    have g := ht t m1
    refine ⟨t.1, rfl, ?_⟩
    rw [kH_at g]
    exact g
  · have own : ∀ y ∈ ys, ∃ t ∈ ts, y = V.ref t.1 := fun y m => by
      obtain ⟨t, m1, e⟩ := List.mem_map.mp (stb.perm.mem_iff.mp m)
      exact ⟨t, m1, e.symm⟩
    have key : ∀ t ∈ ts, kH H (.ref t.1) = t.2 := fun t m => kH_at (ht t m)
    have pm : (ys.map (kH H)).Perm (ts.map (·.2)) := by
      have z := stb.perm.map (kH H)
      rw [List.map_map] at z
      rw [show ts.map (·.2) = ts.map (kH H ∘ fun t => V.ref t.1) from List.map_congr_left fun t m => (key t m).symm]
      exact z
    have sm : Same H (upd H p (.lst ys)) := newS n
    have eo : (ys.map fun v => (adV v, kH H v)).map (fun t => V.ref t.1) = ys := by
      rw [List.map_map]
      refine (List.map_congr_left fun v m => ?_).trans (List.map_id _)
      obtain ⟨t, _, rfl⟩ := own v m
      rfl
    refine q p _ (ys.map (kH H)) sm n ⟨ys.map fun v => (adV v, kH H v), ?_, fun u m => ?_, ?_⟩ pm ?_
    · rw [eo, upd_same]
    · obtain ⟨v, m1, rfl⟩ := List.mem_map.mp m
      obtain ⟨t, m2, rfl⟩ := own v m1
      refine sm _ _ ?_
      show H t.1 = _
      rw [key t m2]
      exact ht t m2
    · rw [List.map_map]
      rfl
    · refine List.pairwise_map.mpr (srt.imp fun {u v} h z => ?_)
      have h : SrtO.lexB (kH H v) (kH H u) = false := h
      have z : SrtO.lexB (kH H v) (kH H u) = true := z
      rw [h] at z
      cases z
end Vx
namespace Vx
open PySem PySem.Spec PyProof.Rows L2
/-! ### the items of a dict whose keys are tuples -/
section
variable {X : Cx} {pins : List (Addr × Obj)} {σ : L2.St} {H : Hp} {s : Shared} {d : Addr} {o : Obj}
theorem frzT2 {kvs : List (List L2.Key × V)} (I : Inv X pins σ H s) (h : H d = some (.frz o (.dT kvs))) :
    (d == sysModules) = false ∧ s.heap.get? d = some o ∧ o.ExactDict ∧ ∃ (es : Array DictEntry) (ep : Nat), o.data = .dict es ep ∧ es.size = kvs.length ∧
      ∀ (i : Nat) (k : List L2.Key) (v : V), kvs[i]? = some (k, v) → ∃ (en : DictEntry) (q : Addr), es[i]? = some en ∧ en.key = .ref q ∧ H q = some (.tup (k.map kV)) ∧ RelV v en.val := by
  obtain ⟨hd, z, hs, xs, pr, o', es, ep, ho, hx, hdt, he, _⟩ := I.hok d _ h
  have eo : o = o' := Option.some.inj (hd.symm.trans ho)
  subst eo
  refine ⟨hs, hd, hx, es, ep, hdt, (size_of_entries he).trans (Paired.length pr).symm, fun i k v e => ?_⟩
  obtain ⟨b, hb, _, e2, e3⟩ := paired_get pr e
  refine ⟨entryOfKey (tupleKind (mixKind X.prog X.w)) b, b.2.1, ?_, rfl, e2, e3⟩
  rw [entry_at he i, hb]
  rfl
end
/-- its items, each a new pair of the key's tuple and the value -/
def ItiT (d : Addr) (o : Obj) (kvs : List (List L2.Key × V)) : It where
  go i H := H d = some (.frz o (.dT kvs)) ∧ i < kvs.length
  yld i H x H' := ∃ (T : Addr) (k : List L2.Key) (v : V) (q : Addr), kvs[i]? = some (k, v) ∧ x = .ref T ∧ H q = some (.tup (k.map kV)) ∧ H T = none ∧ H' = upd H T (.tup [.ref q, v])
  stop i H := H d = some (.frz o (.dT kvs)) ∧ kvs.length ≤ i
section
variable {P : Program} {w : World} {K : PySem.W.Frag} {d : Addr} {o : Obj} {es : Array DictEntry} {ep : Nat}
theorem turn_itemsT {kvs : List (List L2.Key × V)} {elts : List Expr} {kk : Nat} {tpos : Pos} (it : Addr) (hod : o.data = .dict es ep) :
    Turn P w K (.Tuple elts kk tpos) (ItiT d o kvs) [it] it (fun i h => ∃ ok ov, IsItemIter h it d i kvs.length ep ok ov) where
  mem := List.mem_singleton.mpr rfl
  obj := fun i h st b hb => by
    obtain ⟨ok, ov, e⟩ := st
    rw [List.mem_singleton.mp hb]
    exact ⟨_, e, fun v z => nomatch z⟩
  keep := fun i h h' st k => by
    obtain ⟨ok, ov, e⟩ := st
    exact ⟨ok, ov, k it (List.mem_singleton.mpr rfl) _ e⟩
  item := by
    intro X hP hw hK hc i pins s σ H E I hf st hg
    subst hP hw hK
    obtain ⟨hd, hi⟩ := hg
    obtain ⟨hs, hgd, hx, es', ep', hdt, hsz, ent⟩ := frzT2 I hd
    obtain ⟨rfl, rfl⟩ := dict_ep hod hdt
    obtain ⟨⟨k, v⟩, hkv⟩ : ∃ p, kvs[i]? = some p := ⟨kvs[i], List.getElem?_eq_getElem hi⟩
    obtain ⟨en, q, hen, hkey, hq, rv⟩ := ent i k v hkv
    obtain ⟨ok, ov, he⟩ := st
    have hlt : it < s.heap.objs.size := Heap.lt_size he
    have hi' : i < es'.size := by
      rw [hsz]
      exact hi
    have een : es'[i] = en := by
      rw [Array.getElem?_eq_getElem hi'] at hen
      exact Option.some.inj hen
    rw [← hsz] at he
    refine DT.nextI he ⟨o, hgd, hx, hdt⟩ hi' fun h' ho hT hz hk => ?_
    rw [een, hkey] at ho hT
    refine ⟨_, rfl, wpAny_letOwnedTupleGo_items (s := { s with heap := h' }) ho fun h'' he' sb => ?_⟩
    have hT2 : h''.get? s.heap.objs.size = some { cls := .type "tuple", data := .seq #[.ref q, en.val] } := (sb.2 _ (Nat.ne_of_gt hlt)).trans hT
    have new : ObjOk X.prog X.w (upd H s.heap.objs.size (.tup [.ref q, v])) h'' s.heap.objs.size (.tup [.ref q, v]) :=
      ⟨by show 2 ≤ sizeLine; decide, [.ref q, en.val], .cons rfl (.cons rv .nil), ⟨_, hT2, rfl, _, rfl⟩⟩
    have I1 : Inv X pins σ (upd H s.heap.objs.size (.tup [.ref q, v])) { s with heap := h'' } :=
      I.turnedNew (t' := s.toks) (ch := [it]) (fun b ob hb e => (sb.2 b (by simpa using hb)).trans (hk b ob (by simpa using hb) e)) hf (Nat.le_refl _) new
    refine ⟨.ref s.heap.objs.size, _, I1, rfl, ⟨_, k, v, q, hkv, rfl, hq, I.hok.fresh (Nat.le_refl _), rfl⟩, ⟨.ref q, en.val, ?_⟩, fun b hb => ?_⟩
    · rw [← hsz]
      exact he'
    · rw [List.mem_singleton.mp hb, upd_ne (Nat.ne_of_lt hlt)]
      exact (hf it (List.mem_singleton.mpr rfl)).1
  done := by
    intro X hP hw hK hc i pins s σ H E I hf st hg
    subst hP hw hK
    obtain ⟨hd, hi⟩ := hg
    obtain ⟨f0, f1, f2, f3, f4, f5⟩ := hf it (List.mem_singleton.mpr rfl)
    obtain ⟨hs, hgd, hx, es', ep', hdt, hsz, ent⟩ := frzT2 I hd
    obtain ⟨rfl, rfl⟩ := dict_ep hod hdt
    obtain ⟨ok, ov, he⟩ := st
    rw [← hsz] at he
    exact DT.endI (I.ok.hd hc) he ⟨o, hgd, hx, hdt⟩ (by omega) fun h' eb => ⟨rfl, I.turned (t' := s.toks) (fun b ob hb e => eb b ob hb e) f0 f1 f3 f4 f5⟩
  self := fun A i s Q E st h => by
    obtain ⟨_, _, e⟩ := st
    exact PySem.W.kcp_self e h
end
def iItemsT (td : TE) : TI := fun σ H R => td σ H fun x H1 => ∃ d o kvs, x = .ref d ∧ H1 d = some (.frz o (.dT kvs)) ∧ R (ItiT d o kvs) H1
theorem pi_itemsT {X : Cx} {e : Expr} {td : TE} {apos cpos tpos : Pos} {elts : List Expr} {kk : Nat} (he : PE X e td) (hbase : attributeBase e "items" X.env (eval e X.env) = eval e X.env := by rfl) (hline : (apos.endLine == cpos.line) = true := by rfl) :
    PI X (.Tuple elts kk tpos) (.Call (.Attribute e "items" apos) [] [] cpos) (iItemsT td) := by
  refine ⟨fun pins s σ H R I h => ?_⟩
  refine wpAny_Call_method (T := "dict") (id := "dict.items") hbase rfl hline F.plainAttrs_dict F.slot_dict_items F.type_dict_items (thn (he.run pins s σ H _ I h) fun u s1 ⟨x, H1, I1, rx, d, o, kvs, ex, hd, q⟩ => ?_)
  subst ex
  obtain rfl : u = Value.ref d := rx
  obtain ⟨hs, hgd, hx, es, ep, hdt, hsz, ent⟩ := frzT2 I1 hd
  have raw : DT.Raw s1.heap d es ep := ⟨o, hgd, hx, hdt⟩
  refine ⟨raw.typeIs, (fun a ea => by cases ea; exact ⟨o, hgd, hx.2.1⟩), ?_⟩
  have I2 : Inv X pins σ H1 { s1 with heap := s1.heap.push { cls := .type "dict_items", data := .fields #[.ref d] } } := I1.kept (t' := s1.toks) fun b ob q => Heap.get?_push_of_some _ q
  have fin : wpAny (model X.prog X.w) X.A (pyIter (.ref s1.heap.objs.size)) (PIE X pins σ (.Tuple elts kk tpos) R) X.xe { s1 with heap := s1.heap.push { cls := .type "dict_items", data := .fields #[.ref d] } } := by
    refine DT.iterI (d := d) (es := es) (ep := ep) ⟨_, Heap.get?_push_size _ rfl, rfl, rfl⟩ (raw.push _) (pi_one (tk := s1.toks) I2 _ (turn_itemsT _ hdt) ⟨.none, .none, ?_⟩ q)
    rw [hsz]
    exact Heap.get?_push_size _ rfl
  show wpAny _ _ (callWith cpos (.builtin "dict.items") [.ref d] [] []) _ X.xe s1
  exact method_meetsIn F.slot_dict_items F.entry_dict_items rfl (PySem.evalArgs_none ⟨rfl, raw.typeIs, F.args_dict_items_1 _, _, DT.meetsItems (es := es) (ep := ep) hs, ⟨raw, fin⟩⟩)
theorem walk_itemsT {d : Addr} {o : Obj} {kvs : List (List L2.Key × V)} : Walk (ItiT d o kvs) kvs.length (fun H => H d = some (.frz o (.dT kvs)))
    (fun i H x H' => ∃ (T : Addr) (k : List L2.Key) (v : V) (q : Addr), kvs[i]? = some (k, v) ∧ x = .ref T ∧ H q = some (.tup (k.map kV)) ∧ H T = none ∧ H' = upd H T (.tup [.ref q, v])) :=
  ⟨fun _ _ hi q => ⟨q, hi⟩, fun _ q => ⟨q, Nat.le_refl _⟩, fun _ _ _ _ _ _ y => y⟩
end Vx
namespace Vx
open PySem PySem.Spec PyProof.Rows L2
/-! ### bits of numbers from 0 on -/
theorem xor_and_add : ∀ a b : Nat, (a ^^^ b) + 2 * (a &&& b) = a + b := by
  intro a
  induction a using Nat.strongRecOn with
  | _ a ih =>
    intro b
    by_cases h : a = 0
    · subst h
      simp
    · have e := ih (a / 2) (by omega) (b / 2)
      have x1 : (a ^^^ b) / 2 = (a / 2) ^^^ (b / 2) := Nat.xor_div_two
      have x2 : (a &&& b) / 2 = (a / 2) &&& (b / 2) := Nat.and_div_two
      have t1 := Nat.testBit_xor a b 0
      have t2 := Nat.testBit_and a b 0
      rw [Nat.testBit_zero, Nat.testBit_zero, Nat.testBit_zero] at t1 t2
      have y1 : (a ^^^ b) % 2 = (a % 2 + b % 2) % 2 := by
        by_cases p : a % 2 = 1 <;> by_cases q : b % 2 = 1
        · rw [decide_eq_true p, decide_eq_true q] at t1
          have := of_decide_eq_false t1
          omega
        · rw [decide_eq_true p, decide_eq_false q] at t1
          have := of_decide_eq_true t1
          omega
        · rw [decide_eq_false p, decide_eq_true q] at t1
          have := of_decide_eq_true t1
          omega
        · rw [decide_eq_false p, decide_eq_false q] at t1
          have := of_decide_eq_false t1
          omega
      have y2 : (a &&& b) % 2 = if a % 2 = 1 ∧ b % 2 = 1 then 1 else 0 := by
        by_cases p : a % 2 = 1 <;> by_cases q : b % 2 = 1
        · rw [decide_eq_true p, decide_eq_true q] at t2
          rw [if_pos ⟨p, q⟩]
          exact of_decide_eq_true t2
        · rw [decide_eq_true p, decide_eq_false q] at t2
          rw [if_neg fun z => q z.2]
          have := of_decide_eq_false t2
          omega
        · rw [decide_eq_false p, decide_eq_true q] at t2
          rw [if_neg fun z => p z.1]
          have := of_decide_eq_false t2
          omega
        · rw [decide_eq_false p, decide_eq_false q] at t2
          rw [if_neg fun z => p z.1]
          have := of_decide_eq_false t2
          omega
      have z1 := Nat.div_add_mod (a ^^^ b) 2
      have z2 := Nat.div_add_mod (a &&& b) 2
      rw [x1, y1] at z1
      rw [x2, y2] at z2
      by_cases p : a % 2 = 1 ∧ b % 2 = 1
      · rw [if_pos p] at z2
        omega
      · rw [if_neg p] at z2
        omega
theorem or_and_xor (a b : Nat) : (a ||| b) = (a ^^^ b) + (a &&& b) := by
  have d : (a ^^^ b) &&& (a &&& b) = 0 := by
    refine Nat.eq_of_testBit_eq fun i => ?_
    simp only [Nat.testBit_and, Nat.testBit_xor, Nat.zero_testBit]
    cases a.testBit i <;> cases b.testBit i <;> rfl
  have e := xor_and_add (a ^^^ b) (a &&& b)
  rw [d] at e
  have f : (a ^^^ b) ^^^ (a &&& b) = a ||| b := by
    refine Nat.eq_of_testBit_eq fun i => ?_
    simp only [Nat.testBit_and, Nat.testBit_xor, Nat.testBit_or]
    cases a.testBit i <;> cases b.testBit i <;> rfl
  omega
theorem bAnd (a b : Nat) : Builtin.bitAnd (a : Int) (b : Int) = ((a &&& b : Nat) : Int) := PySem.W.os_band a b
theorem bOr (a b : Nat) : Builtin.bitOr (a : Int) (b : Int) = ((a ||| b : Nat) : Int) := by
  rw [bitOr_nn (Int.natCast_nonneg a) (Int.natCast_nonneg b), Int.toNat_natCast, Int.toNat_natCast]
theorem bXor (a b : Nat) : Builtin.bitXor (a : Int) (b : Int) = ((a ^^^ b : Nat) : Int) := by
  show Builtin.bitOr (a : Int) (b : Int) - Builtin.bitAnd (a : Int) (b : Int) = _
  rw [bAnd, bOr, or_and_xor]
  omega
section
variable {X : Cx}
theorem op_andNN : OpR X (binaryOp .BitAnd) (fun x y H Q => ∃ a b : Nat, x = .int (a : Int) ∧ y = .int (b : Int) ∧ Q (.int ((a &&& b : Nat) : Int)) H) := by
  intro pins s σ H x y v u Q I r1 r2 h
  obtain ⟨a, b, rfl, rfl, q⟩ := h
  exact op_and pins s σ H _ _ v u Q I r1 r2 ⟨_, _, rfl, rfl, (by show Q (V.int (Builtin.bitAnd (a : Int) (b : Int))) H; rw [bAnd]; exact q)⟩
theorem op_orNN : OpR X (binaryOp .BitOr) (fun x y H Q => ∃ a b : Nat, x = .int (a : Int) ∧ y = .int (b : Int) ∧ Q (.int ((a ||| b : Nat) : Int)) H) := by
  intro pins s σ H x y v u Q I r1 r2 h
  obtain ⟨a, b, rfl, rfl, q⟩ := h
  exact op_or pins s σ H _ _ v u Q I r1 r2 ⟨_, _, rfl, rfl, (by show Q (V.int (Builtin.bitOr (a : Int) (b : Int))) H; rw [bOr]; exact q)⟩
theorem op_xorNN : OpR X (binaryOp .BitXor) (fun x y H Q => ∃ a b : Nat, x = .int (a : Int) ∧ y = .int (b : Int) ∧ Q (.int ((a ^^^ b : Nat) : Int)) H) := by
  intro pins s σ H x y v u Q I r1 r2 h
  obtain ⟨a, b, rfl, rfl, q⟩ := h
  exact op_xor pins s σ H _ _ v u Q I r1 r2 ⟨_, _, rfl, rfl, (by show Q (V.int (Builtin.bitXor (a : Int) (b : Int))) H; rw [bXor]; exact q)⟩
theorem ip_orNN : PIp X .BitOr (fun x y H Q => ∃ a b : Nat, x = .int (a : Int) ∧ y = .int (b : Int) ∧ Q (.int ((a ||| b : Nat) : Int)) H) := by
  intro pins s σ H x y v u Q I r1 r2 h
  obtain ⟨a, b, rfl, rfl, q⟩ := h
  exact iop_or pins s σ H _ _ v u Q I r1 r2 ⟨_, _, rfl, rfl, (by show Q (V.int (Builtin.bitOr (a : Int) (b : Int))) H; rw [bOr]; exact q)⟩
theorem ip_xorNN : PIp X .BitXor (fun x y H Q => ∃ a b : Nat, x = .int (a : Int) ∧ y = .int (b : Int) ∧ Q (.int ((a ^^^ b : Nat) : Int)) H) := by
  intro pins s σ H x y v u Q I r1 r2 h
  obtain ⟨a, b, rfl, rfl, q⟩ := h
  exact iop_xor pins s σ H _ _ v u Q I r1 r2 ⟨_, _, rfl, rfl, (by show Q (V.int (Builtin.bitXor (a : Int) (b : Int))) H; rw [bXor]; exact q)⟩
theorem op_shrNN : OpR X (binaryOp .RShift) (fun x y H Q => ∃ a k : Nat, x = .int (a : Int) ∧ y = .int (k : Int) ∧ Q (.int ((a >>> k : Nat) : Int)) H) := by
  intro pins s σ H x y v u Q I r1 r2 h
  obtain ⟨a, k, rfl, rfl, q⟩ := h
  refine op_shrN pins s σ H _ _ v u Q I r1 r2 ⟨_, k, rfl, rfl, ?_⟩
  rw [show (a : Int) / 2 ^ k = ((a >>> k : Nat) : Int) by rw [Nat.shiftRight_eq_div_pow]; exact (by push_cast; rfl)]
  exact q
theorem op_shlNN : OpR X (binaryOp .LShift) (fun x y H Q => ∃ (a k n : Nat), x = .int (a : Int) ∧ y = .int (k : Int) ∧ a < 2 ^ n ∧ n + k ≤ 134217728 ∧ Q (.int ((a <<< k : Nat) : Int)) H) := by
  intro pins s σ H x y v u Q I r1 r2 h
  obtain ⟨a, k, n, rfl, rfl, la, lk, q⟩ := h
  refine op_shlN pins s σ H _ _ v u Q I r1 r2 ⟨_, k, rfl, rfl, shl_ok (n := n) la lk, ?_⟩
  rw [show (a : Int) * 2 ^ k = ((a <<< k : Nat) : Int) by rw [Nat.shiftLeft_eq]; exact (by push_cast; rfl)]
  exact q
end
/-! ### the bits that are set, ascending -/
def bitsB (N n : Nat) : List Nat := (List.range N).filter fun j => n.testBit j
theorem mem_bitsB {N n j : Nat} : j ∈ bitsB N n ↔ j < N ∧ n.testBit j = true := by
  unfold bitsB
  rw [List.mem_filter, List.mem_range]
theorem low_bit : ∀ n : Nat, n ≠ 0 → ∃ k a, n = 2 ^ k * (2 * a + 1) := by
  intro n
  induction n using Nat.strongRecOn with
  | _ n ih =>
    intro h
    by_cases e : n % 2 = 1
    · exact ⟨0, n / 2, by omega⟩
    · obtain ⟨k, a, q⟩ := ih (n / 2) (by omega) (by omega)
      refine ⟨k + 1, a, ?_⟩
      have : n = 2 * (n / 2) := by omega
      rw [this, q, Nat.pow_succ, Nat.mul_comm (2 ^ k) 2, Nat.mul_assoc]
theorem low_test {k a j : Nat} : (2 ^ k * (2 * a + 1)).testBit j = (decide (j = k) || (decide (k < j) && (2 ^ k * (2 * a)).testBit j)) := by
  rw [Nat.testBit_two_pow_mul, Nat.testBit_two_pow_mul]
  by_cases h : k ≤ j
  · by_cases e : j = k
    · subst e
      simp [Nat.testBit_zero]
    · have e2 : k < j := by omega
      have e3 : j - k = (j - k - 1) + 1 := by omega
      rw [e3, Nat.testBit_succ, Nat.testBit_succ]
      have e4 : (2 * a + 1) / 2 = 2 * a / 2 := by omega
      rw [e4]
      simp [h, e, e2]
  · have e : j ≠ k := by omega
    have e2 : ¬ k < j := by omega
    simp [h, e, e2]
theorem low_xor (k a : Nat) : 2 ^ k * (2 * a + 1) ^^^ 2 ^ k = 2 ^ k * (2 * a) := by
  refine Nat.eq_of_testBit_eq fun j => ?_
  rw [Nat.testBit_xor, low_test, Nat.testBit_two_pow]
  by_cases e : k = j
  · subst e
    simp [Nat.testBit_two_pow_mul, Nat.testBit_zero]
  · have e' : j ≠ k := fun z => e z.symm
    simp only [e, e', decide_false, Bool.false_or, Bool.xor_false]
    by_cases h : k < j
    · simp [h]
    · have : ¬ k ≤ j := by omega
      simp [h, this, Nat.testBit_two_pow_mul]
theorem bits_low {N k a : Nat} (h : 2 ^ k * (2 * a + 1) < 2 ^ N) : bitsB N (2 ^ k * (2 * a + 1)) = k :: bitsB N (2 ^ k * (2 * a)) := by
  have hk : k < N := by
    have : 2 ^ k < 2 ^ N := Nat.lt_of_le_of_lt (Nat.le_mul_of_pos_right _ (by omega)) h
    exact (Nat.pow_lt_pow_iff_right (by decide)).mp this
  have e : List.range N = List.range k ++ k :: (List.range (N - k - 1)).map (fun j => k + 1 + j) := by
    have e1 := List.range_add (n := k) (m := N - k)
    rw [show k + (N - k) = N by omega] at e1
    rw [e1, show N - k = (N - k - 1) + 1 by omega, List.range_succ_eq_map, List.map_cons, List.map_map]
    simp
    intro j _
    omega
  have z : ∀ m, (List.range k).filter (fun j => (2 ^ k * m).testBit j) = [] := fun m => by
    refine List.filter_eq_nil_iff.mpr fun j hj => ?_
    have := List.mem_range.mp hj
    rw [Nat.testBit_two_pow_mul]
    have : ¬ k ≤ j := by omega
    simp [this]
  unfold bitsB
  rw [e, List.filter_append, List.filter_append, z, z, List.nil_append, List.nil_append, List.filter_cons, List.filter_cons]
  rw [if_pos (by rw [low_test]; simp), if_neg (by rw [Nat.testBit_two_pow_mul]; simp [Nat.testBit_zero])]
  refine congrArg _ (List.filter_congr fun j hj => ?_)
  obtain ⟨i, _, rfl⟩ := List.mem_map.mp hj
  rw [low_test]
  have e1 : ¬ k + 1 + i = k := by omega
  have e2 : k < k + 1 + i := by omega
  simp [e1, e2]
theorem bits_zero (N : Nat) : bitsB N 0 = [] := by
  unfold bitsB
  exact List.filter_eq_nil_iff.mpr fun j _ => by simp
theorem low_and (k a : Nat) : Builtin.bitAnd ((2 ^ k * (2 * a + 1) : Nat) : Int) (-((2 ^ k * (2 * a + 1) : Nat) : Int)) = ((2 ^ k : Nat) : Int) := by
  have e := PySem.W.kbt_low k (a : Int)
  push_cast
  exact e
theorem intBits_pow (k : Nat) : Builtin.Int.intBits ((2 ^ k : Nat) : Int) = k + 1 := by
  unfold Builtin.Int.intBits
  have h : ¬ ((((2 ^ k : Nat) : Int)) == 0) = true := by
    have : 0 < 2 ^ k := Nat.two_pow_pos k
    simp only [beq_iff_eq]
    omega
  rw [if_neg h, Int.natAbs_natCast, Nat.log2_two_pow]
end Vx
namespace Vx
open PySem PySem.Spec PyProof.Rows L2
/-! ### dicts whose keys are pairs, told by the list of the keys and a function -/
def MapP (kvs : List (List L2.Key × V)) (ps : List Pr) (g : Pr → V) : Prop := kvs = ps.map (fun x => (keyP x, g x)) ∧ ps.Nodup
def addK (ps : List Pr) (x : Pr) : List Pr := if x ∈ ps then ps else ps ++ [x]
def setG (g : Pr → V) (x : Pr) (v : V) : Pr → V := fun y => if y = x then v else g y
theorem mem_addK {ps : List Pr} {x y : Pr} : y ∈ addK ps x ↔ y ∈ ps ∨ y = x := by
  unfold addK
  by_cases h : x ∈ ps
  · rw [if_pos h]
    exact ⟨.inl, fun q => q.elim id fun e => e ▸ h⟩
  · rw [if_neg h, List.mem_append, List.mem_singleton]
theorem addK_len {ps : List Pr} {x : Pr} : (addK ps x).length ≤ ps.length + 1 := by
  unfold addK
  by_cases h : x ∈ ps
  · rw [if_pos h]
    omega
  · rw [if_neg h, List.length_append]
    exact Nat.le_refl _
theorem addK_new {ps : List Pr} {x : Pr} (h : x ∉ ps) : addK ps x = ps ++ [x] := if_neg h
theorem addK_old {ps : List Pr} {x : Pr} (h : x ∈ ps) : addK ps x = ps := if_pos h
theorem MapP.nil (g : Pr → V) : MapP [] [] g := ⟨rfl, List.nodup_nil⟩
theorem MapP.keys {kvs : List (List L2.Key × V)} {ps : List Pr} {g : Pr → V} (h : MapP kvs ps g) : KeysP kvs ps := by
  refine ⟨?_, h.2⟩
  rw [h.1, List.map_map]
  rfl
theorem MapP.len {kvs : List (List L2.Key × V)} {ps : List Pr} {g : Pr → V} (h : MapP kvs ps g) : kvs.length = ps.length := by rw [h.1, List.length_map]
theorem MapP.congr {kvs : List (List L2.Key × V)} {ps : List Pr} {g g' : Pr → V} (h : MapP kvs ps g) (e : ∀ x ∈ ps, g x = g' x) : MapP kvs ps g' := by
  refine ⟨?_, h.2⟩
  rw [h.1]
  exact List.map_congr_left fun x m => by rw [e x m]
theorem MapP.at {kvs : List (List L2.Key × V)} {ps : List Pr} {g : Pr → V} (h : MapP kvs ps g) {i : Nat} {k : List L2.Key} {v : V} (e : kvs[i]? = some (k, v)) : ∃ x, ps[i]? = some x ∧ k = keyP x ∧ v = g x := by
  rw [h.1, List.getElem?_map] at e
  cases q : ps[i]? with
  | none => rw [q] at e; cases e
  | some x =>
    rw [q] at e
    injection e with e
    injection e with e1 e2
    exact ⟨x, rfl, e1.symm, e2.symm⟩
theorem MapP.get {kvs : List (List L2.Key × V)} {ps : List Pr} {g : Pr → V} (h : MapP kvs ps g) (x : Pr) : valV kvs (keyP x) = if x ∈ ps then some (g x) else none := by
  rw [h.1]
  have go : ∀ qs : List Pr, valV (qs.map fun x => (keyP x, g x)) (keyP x) = if x ∈ qs then some (g x) else none := fun qs => by
    induction qs with
    | nil => rfl
    | cons y qs ih =>
      rw [List.map_cons]
      by_cases e : y = x
      · subst e
        rw [valV_pos rfl, if_pos List.mem_cons_self]
      · rw [valV_neg (fun z => e (keyP_inj z)), ih]
        have e' : ¬ x = y := fun z => e z.symm
        by_cases m : x ∈ qs <;> simp [m, e']
  exact go ps
theorem MapP.put {kvs : List (List L2.Key × V)} {ps : List Pr} {g : Pr → V} (h : MapP kvs ps g) (x : Pr) (v : V) : MapP (putK kvs (keyP x) v) (addK ps x) (setG g x v) := by
  have any : (kvs.any fun kv => decide (kv.1 = keyP x)) = decide (x ∈ ps) := by
    rw [valV_any, h.get]
    by_cases m : x ∈ ps <;> simp [m]
  unfold putK
  rw [any]
  by_cases m : x ∈ ps
  · rw [if_pos (decide_eq_true m), addK_old m]
    refine ⟨?_, h.2⟩
    rw [h.1, List.map_map]
    refine List.map_congr_left fun y _ => ?_
    show (if keyP y = keyP x then (keyP y, v) else (keyP y, g y)) = (keyP y, if y = x then v else g y)
    by_cases e : y = x
    · rw [if_pos (by rw [e]), if_pos e]
    · rw [if_neg fun z => e (keyP_inj z), if_neg e]
  · rw [if_neg (by simp [m]), addK_new m]
    refine ⟨?_, ?_⟩
    · rw [h.1, List.map_append]
      congr 1
      · refine List.map_congr_left fun y my => ?_
        have e : ¬ y = x := fun e => m (e ▸ my)
        show (keyP y, g y) = (keyP y, if y = x then v else g y)
        rw [if_neg e]
      · show [(keyP x, v)] = [(keyP x, if x = x then v else g x)]
        rw [if_pos rfl]
    · refine List.pairwise_append.mpr ⟨h.2, List.pairwise_cons.mpr ⟨fun _ m => (by cases m), List.Pairwise.nil⟩, fun a ma b mb e => ?_⟩
      rw [List.mem_singleton.mp mb] at e
      exact m (e ▸ ma)
theorem MapP.drop {kvs : List (List L2.Key × V)} {ps : List Pr} {g : Pr → V} (h : MapP kvs ps g) (x : Pr) : MapP (dropK kvs (keyP x)) (ps.filter fun y => decide (y ≠ x)) g := by
  refine ⟨?_, h.2.filter _⟩
  unfold dropK
  rw [h.1, List.filter_map]
  congr 1
  refine List.filter_congr fun y _ => ?_
  show decide (keyP y ≠ keyP x) = decide (y ≠ x)
  by_cases e : y = x
  · simp [e]
  · have : keyP y ≠ keyP x := fun z => e (keyP_inj z)
    simp [e, this]
/-- at d: such a dict -/
def Dct (H : Hp) (d : Addr) (ps : List Pr) (g : Pr → V) : Prop := ∃ kvs, H d = some (.dT kvs) ∧ MapP kvs ps g
theorem Dct.up {H H' : Hp} {d : Addr} {ps : List Pr} {g : Pr → V} (e : Same H H') (h : Dct H d ps g) : Dct H' d ps g := by
  obtain ⟨kvs, h1, h2⟩ := h
  exact ⟨kvs, e _ _ h1, h2⟩
theorem Dct.new {H : Hp} {d : Addr} (g : Pr → V) (h : H d = some (.dT [])) : Dct H d [] g := ⟨[], h, .nil g⟩
theorem Dct.ne {H : Hp} {d p : Addr} {ps : List Pr} {g : Pr → V} (h : Dct H d ps g) (n : H p = none) : p ≠ d := fun e => by
  obtain ⟨kvs, h1, _⟩ := h
  rw [e, h1] at n
  cases n
theorem Dct.isD {H : Hp} {d : Addr} {ps : List Pr} {g : Pr → V} (h : Dct H d ps g) : IsD H d := by
  obtain ⟨kvs, h1, _⟩ := h
  exact .inr ⟨kvs, .inl h1⟩
theorem Dct.dget {H : Hp} {d b : Addr} {ps : List Pr} {g : Pr → V} {x : Pr} (h : Dct H d ps g) (e : H b = some (.tup [.int x.1, .int x.2])) : DGet H d (.ref b) (if x ∈ ps then some (g x) else none) := by
  obtain ⟨kvs, h1, h2⟩ := h
  rw [← h2.get x]
  exact .t (k := keyP x) h1 e
/-- the answer of d.get(x, z) -/
def orG (ps : List Pr) (g : Pr → V) (z : V) (x : Pr) : V := if x ∈ ps then g x else z
theorem getD_or {ps : List Pr} {g : Pr → V} {z : V} {x : Pr} : (if x ∈ ps then some (g x) else none : Option V).getD z = orG ps g z x := by
  unfold orG
  by_cases h : x ∈ ps <;> simp [h]
/-- what stands elsewhere stays, d's dict grows -/
def PutAt (H : Hp) (d : Addr) (ps : List Pr) (g : Pr → V) (x : Pr) (v : V) (H' : Hp) : Prop := Dct H' d (addK ps x) (setG g x v) ∧ ∀ b, b ≠ d → H' b = H b
theorem Dct.dput {H : Hp} {d b : Addr} {ps : List Pr} {g : Pr → V} {x : Pr} (h : Dct H d ps g) (few : ps.length < sizeLine) (e : H b = some (.tup [.int x.1, .int x.2])) (v : V) : ∃ H', DPut H d (.ref b) v H' ∧ PutAt H d ps g x v H' := by
  obtain ⟨kvs, h1, h2⟩ := h
  exact ⟨_, .t (k := keyP x) h1 e (by rw [h2.len]; exact few), ⟨_, upd_same, h2.put x v⟩, fun b n => upd_ne n⟩
theorem PutAt.mut {H0 H H' : Hp} {d : Addr} {ps : List Pr} {g : Pr → V} {x : Pr} {v : V} (p : PutAt H d ps g x v H') (sm : Same H0 H) (n : H0 d = none) : Same H0 H' := fun b o e => by
  rw [p.2 b fun z => by rw [z, n] at e; cases e]
  exact sm b o e
theorem Dct.congr {H : Hp} {d : Addr} {ps : List Pr} {g g' : Pr → V} (h : Dct H d ps g) (e : ∀ x ∈ ps, g x = g' x) : Dct H d ps g' := by
  obtain ⟨kvs, h1, h2⟩ := h
  exact ⟨kvs, h1, h2.congr e⟩
theorem updS {H H' : Hp} {d : Addr} {o : HO} (e : Same H H') : Same (upd H d o) (upd H' d o) := fun b u h => by
  by_cases c : b = d
  · rw [c, upd_same] at h
    rw [c, upd_same]
    exact h
  · rw [upd_ne c] at h
    rw [upd_ne c]
    exact e b u h
theorem Dct.off {H : Hp} {d e : Addr} {ps : List Pr} {g : Pr → V} {o : HO} (h : Dct H d ps g) (n : d ≠ e) : Dct (upd H e o) d ps g := by
  obtain ⟨kvs, h1, h2⟩ := h
  exact ⟨kvs, by rw [upd_ne n]; exact h1, h2⟩
theorem nodup_next {α : Type} {ps : List α} {i : Nat} {x : α} (nd : ps.Nodup) (h : ps[i]? = some x) : x ∉ ps.take i := fun m => by
  obtain ⟨j, hj, e⟩ := List.getElem_of_mem m
  rw [List.length_take] at hj
  obtain ⟨li, ei⟩ := List.getElem?_eq_some_iff.mp h
  rw [List.getElem_take] at e
  have := (List.getElem_inj nd (h₀ := by omega) (h₁ := li)).mp (e.trans ei.symm)
  omega
theorem addK_take {ps : List Pr} {i : Nat} {x : Pr} (nd : ps.Nodup) (h : ps[i]? = some x) : addK (ps.take i) x = ps.take (i + 1) := by
  rw [addK_new (nodup_next nd h), take_next h]
theorem unlock {H H' : Hp} {d : Addr} {od : Obj} {u : HO} (hd : H d = some u) (sm : Same (upd H d (.frz od u)) H') : Same H (upd H' d u) := fun b o e => by
  by_cases c : b = d
  · rw [c] at e ⊢
    rw [hd] at e
    rw [upd_same]
    exact e
  · rw [upd_ne c]
    exact sm b o (by rw [upd_ne c]; exact e)
/-! ### the program's lists of such keys -/
theorem isKeys_cells {H : Hp} {p : Addr} : ∀ {kvs : List (List L2.Key × V)} {ps : List Pr} {g : Pr → V} {bs : List Addr}, MapP kvs ps g → IsKeys H kvs bs → H p = some (.lst (bs.map V.ref)) → Cells H p ps := by
  have go : ∀ (ps : List Pr) (g : Pr → V) (bs : List Addr), IsKeys H (ps.map fun x => (keyP x, g x)) bs → ∃ ts : List (Addr × Pr), bs.map V.ref = ts.map (fun t => V.ref t.1) ∧ (∀ t ∈ ts, H t.1 = some (.tup [.int t.2.1, .int t.2.2])) ∧ ts.map (·.2) = ps := by
    intro ps g
    induction ps with
    | nil =>
      intro bs h
      cases h
      exact ⟨[], rfl, fun _ m => (by cases m), rfl⟩
    | cons x ps ih =>
      intro bs h
      cases h with
      | @cons _ b _ bs h1 h2 =>
        obtain ⟨ts, a1, a2, a3⟩ := ih bs h2
        refine ⟨(b, x) :: ts, ?_, ?_, ?_⟩
        · rw [List.map_cons, List.map_cons, a1]
        · intro t m
          rcases List.mem_cons.mp m with e | m
          · rw [e]
            exact h1
          · exact a2 t m
        · rw [List.map_cons, a3]
  intro kvs ps g bs h k e
  rw [h.1] at k
  obtain ⟨ts, a1, a2, a3⟩ := go ps g bs k
  exact ⟨ts, by rw [e, a1], a2, a3⟩
theorem cr_listP {X : Cx} (hc : X.calm = true) : CallR X (.type "list") (fun xs H Q => ∃ d ps g, xs = [V.ref d] ∧ Dct H d ps g ∧ ∀ H' p, Same H H' → H p = none → Cells H' p ps → Q (.ref p) H') := by
  intro pins s σ H xs us Q I r h
  obtain ⟨d, ps, g, rfl, ⟨kvs, h1, h2⟩, q⟩ := h
  refine call_list_dT hc pins s σ H _ us Q I r ⟨d, kvs, rfl, .inl h1, fun p bs n k => q _ p (newS n) n ?_⟩
  refine isKeys_cells (bs := bs) h2 ?_ upd_same
  exact Paired.mapP k fun a b e => newS n _ _ e
theorem truC {K : PySem.W.Frag} {H : Hp} {l : Addr} {ps : List Pr} (h : Cells H l ps) : TruV K (.ref l) H (!ps.isEmpty) := by
  obtain ⟨ts, h1, _, rfl⟩ := h
  exact .inl ⟨_, lst_of h1, by cases ts <;> rfl⟩
/-- sorted(d) -/
theorem cr_sortedDT {X : Cx} (hcalm : X.calm = true) : CallR X (.builtin "sorted") (fun xs H Q => ∃ d ps g, xs = [V.ref d] ∧ Dct H d ps g ∧ ∀ p H' qs, Same H H' → H p = none → Cells H' p qs → CanP ps qs → qs.length = ps.length → Q (.ref p) H') := by
  intro pins s σ H xs us Q I r h
  obtain ⟨d, ps, g, rfl, ⟨kvs, hd, hm⟩, q⟩ := h
  obtain ⟨u, rfl, rx⟩ := r.one
  cases rx
  obtain ⟨z, hs, ks, prd, o, es, ep, ho, hx, hdt, he, hn⟩ := (show ObjOk X.prog X.w H s.heap d (.dT kvs) from (Rd.of hd).ok I.hok)
  have l1 : es.size = ks.length := size_of_entries he
  have l2 : kvs.length = ks.length := Paired.length prd
  have lim : es.size ≤ sizeLine := by omega
  refine Calls.call_function_entry kind_sorted plain_sorted entry_sorted (args_sorted1 _) ?_
  unfold Builtin.«sorted»
  refine wpAny_bind (m := checkCount "sorted" 1 1 _) (wpAny_pure ?_)
  refine wpAny_bind (PySem.W.kdu_collect (A := X.A.in1) (kdl_raw hs hx hdt) (I.ok.hd hcalm) ho lim fun h' tk acc kp it => ?_)
  -- the key tuples
  have keyAt : ∀ (i : Nat) (x : Pr), ps[i]? = some x → ∃ b, acc.toList[i]? = some (.ref b) ∧ H b = some (.tup [.int x.1, .int x.2]) := fun i x e => by
    have e1 : kvs[i]? = some (keyP x, g x) := by rw [hm.1, List.getElem?_map, e]; rfl
    obtain ⟨b, hb, _, e2, _⟩ := paired_get prd e1
    have q1 := entry_at he i
    rw [hb] at q1
    have li : i < acc.toList.length := by
      rw [Array.length_toList, it.1, l1]
      exact (List.getElem?_eq_some_iff.mp hb).1
    obtain ⟨en, q2, q3⟩ := it.2 i acc.toList[i] (by rw [← Array.getElem?_toList]; exact List.getElem?_eq_getElem li)
    rw [q1] at q2
    have q4 : entryOfKey (tupleKind (mixKind X.prog X.w)) b = en := Option.some.inj q2
    refine ⟨b.2.1, ?_, e2⟩
    rw [List.getElem?_eq_getElem li, q3, ← q4]
    rfl
  have al : acc.toList.length = ps.length := by rw [Array.length_toList, it.1, l1, ← l2, hm.len]
  have lacc : acc.toList.length ≤ sizeLine := by rw [Array.length_toList, it.1]; exact lim
  have I1 : Inv X pins σ H { s with heap := h', toks := tk } := I.kept kp
  refine wpAny_bind (wpAny_newList ?_ lacc)
  have gl : (h'.push (seqObj "list" acc.toList.toArray 0)).get? h'.objs.size = some (seqObj "list" acc.toList.toArray 0) := Heap.get?_push_size _ rfl
  show wpAny _ _ _ _ _ { s with heap := h'.push (seqObj "list" acc.toList.toArray 0), toks := tk }
  generalize hh1 : h'.push (seqObj "list" acc.toList.toArray 0) = h1 at gl ⊢
  generalize acc.toList = vs at *
  have keep1 : ∀ b u, h'.get? b = some u → h1.get? b = some u := fun b u e => by
    rw [← hh1]
    exact Heap.get?_push_of_some _ e
  have own : ∀ v ∈ vs, ∃ b x, v = .ref b ∧ H b = some (.tup [.int x.1, .int x.2]) ∧ (x : Pr) ∈ ps := fun v m => by
    obtain ⟨i, li, e⟩ := List.getElem_of_mem m
    have lp : i < ps.length := by omega
    obtain ⟨b, e1, e2⟩ := keyAt i ps[i] (List.getElem?_eq_getElem lp)
    rw [List.getElem?_eq_getElem li] at e1
    exact ⟨b, ps[i], by rw [← e]; exact Option.some.inj e1, e2, List.getElem_mem lp⟩
  have tin : ∀ b (x : Pr), H b = some (.tup [.int x.1, .int x.2]) → TS.TupInts h1 (.ref b) [x.1, x.2] := fun b x e => tupInts_of (P := X.prog) (w := X.w) (isT_keep (Inv.isT (k := [x.1, x.2]) I1 (tup_of e)) keep1)
  have key : ∀ b (x : Pr), H b = some (.tup [.int x.1, .int x.2]) → pr (TS.intsOf h1 (.ref b)) = x := fun b x e => by
    rw [(tin b x e).ints]
    rfl
  have isP : ∀ v ∈ vs, Srt.IsPair h1 v (pr (TS.intsOf h1 v)).1 (pr (TS.intsOf h1 v)).2 := fun v m => by
    obtain ⟨b, x, rfl, e, _⟩ := own v m
    rw [key b x e]
    have i := tin b x e
    obtain ⟨b2, items, eb, ⟨o1, go1, co1, n1, do1⟩, ia⟩ := i
    cases eb
    obtain ⟨xs⟩ := items
    cases ia with
    | cons _ t1 ia =>
      cases ia with
      | cons _ t2 ia =>
        cases ia
        exact ⟨_, o1, t1, t2, n1, rfl, go1, co1, do1⟩
  have mapK : vs.map (fun v => pr (TS.intsOf h1 v)) = ps := by
    refine List.ext_getElem? fun i => ?_
    rw [List.getElem?_map]
    by_cases li : i < ps.length
    · obtain ⟨b, e1, e2⟩ := keyAt i ps[i] (List.getElem?_eq_getElem li)
      rw [e1, List.getElem?_eq_getElem li]
      exact congrArg some (key b _ e2)
    · rw [List.getElem?_eq_none (by omega), List.getElem?_eq_none (by omega)]
      rfl
  refine wpAny_bind (wpAny_holding (wpAny_call_entry (s := { s with heap := h1, toks := tk }) slot_list_sort ⟨_, gl, rfl⟩ entry_list_sort (SrtO.list_sort_ord (s := { s with heap := h1, toks := tk }) (SrtO.swo_lex fun v => pr (TS.intsOf h1 v)) gl lacc (fun two => SrtO.pairs_sortableO (by omega) isP fun o1 e => ?_) fun out srt stb => ⟨_, rfl, ?_⟩) (args_list_sort _)))
  · have e' : some o1 = some (seqObj "list" vs.toArray 0) := e.symm.trans gl
    cases e'
    intro c
    exact absurd (Value.type.inj c) (by decide)
  · obtain ⟨c, gc⟩ := sortedHeap_at (vs := vs) (out := out.toArray) gl
    have oown : ∀ v ∈ out, ∃ b x, v = Value.ref b ∧ H b = some (.tup [.int x.1, .int x.2]) ∧ (x : Pr) ∈ ps := fun v m => own v (stb.perm.mem_iff.mp m)
    have keepAll : ∀ b u, h'.get? b = some u → (sortedHeap h1 h'.objs.size vs out.toArray).get? b = some u := fun b u g1 => by
      have lt1 := Heap.lt_size g1
      rw [sortedHeap_old (Nat.ne_of_lt lt1) (Heap.lt_size (keep1 b u g1))]
      exact keep1 b u g1
    have nF : H h'.objs.size = none := I1.hok.fresh (Nat.le_refl _)
    let ts : List (Addr × Pr) := out.map fun v => (adr v, pr (TS.intsOf h1 v))
    have eo : ts.map (fun t => Value.ref t.1) = out := by
      rw [List.map_map]
      refine (List.map_congr_left fun v m => ?_).trans (List.map_id _)
      obtain ⟨b, x, rfl, _⟩ := oown v m
      rfl
    have vals : ∀ ts : List (Addr × Pr), Vals (ts.map fun q => V.ref q.1) (ts.map fun q => Value.ref q.1) := fun ts => by
      induction ts with
      | nil => exact .nil
      | cons t ts ih => exact .cons rfl ih
    have lo : ts.length ≤ sizeLine := by
      rw [List.length_map, stb.perm.length_eq]
      exact lacc
    have new : ObjOk X.prog X.w (upd H h'.objs.size (.lst (ts.map fun q => V.ref q.1))) (sortedHeap h1 h'.objs.size vs out.toArray) h'.objs.size (.lst (ts.map fun q => V.ref q.1)) := by
      refine ⟨by rw [List.length_map]; exact lo, ts.map fun q => Value.ref q.1, c, vals ts, ?_⟩
      rw [eo]
      exact gc
    have J := I1.laid (t' := tk) keepAll (Nat.le_refl _) new
    have pmk : (ts.map (·.2)).Perm ps := by
      rw [List.map_map, ← mapK]
      exact stb.perm.map fun v => pr (TS.intsOf h1 v)
    refine wpAny_pure ⟨_, rfl, .ref h'.objs.size, _, J, rfl, q _ _ (ts.map (·.2)) (newS nF) nF ⟨ts, upd_same, fun t m => ?_, rfl⟩ ⟨?_, fun x => pmk.mem_iff⟩ pmk.length_eq⟩
    · obtain ⟨v, m1, rfl⟩ := List.mem_map.mp m
      obtain ⟨b, x, rfl, e, _⟩ := oown v m1
      refine newS nF _ _ ?_
      show H b = some (.tup [.int (pr (TS.intsOf h1 (.ref b))).1, .int (pr (TS.intsOf h1 (.ref b))).2])
      rw [key b x e]
      exact e
    · have nd : (ts.map (·.2)).Nodup := pmk.nodup_iff.mpr hm.2
      rw [List.map_map] at nd ⊢
      refine List.pairwise_map.mpr ((srt.and (List.pairwise_map.mp nd)).imp fun {u v} h => ?_)
      have a1 := SrtO.lexB_no.mp h.1
      have a2 : ¬ ((pr (TS.intsOf h1 u)).1 = (pr (TS.intsOf h1 v)).1 ∧ (pr (TS.intsOf h1 u)).2 = (pr (TS.intsOf h1 v)).2) := fun e => h.2 (Prod.ext e.1 e.2)
      refine ltP_iff.mpr ?_
      show (pr (TS.intsOf h1 u)).1 < (pr (TS.intsOf h1 v)).1 ∨ (pr (TS.intsOf h1 u)).1 = (pr (TS.intsOf h1 v)).1 ∧ (pr (TS.intsOf h1 u)).2 < (pr (TS.intsOf h1 v)).2
      omega
end Vx
namespace Vx
open PySem PySem.Spec PyProof.Rows L2
/-! ### a number in binary digits -/
def binL (n : Nat) : List Nat := (Nat.toDigits 2 n).map Char.toNat
def binT (n : Nat) : Str := ⟨(binL n).toArray⟩
section
open PySem.Builtin PySem.Builtin.Int PySem.Builtin.Float
variable {prog : Program} {w : World} {A : Around} {E : Value → Shared → Prop} {s : Shared} {t : Tok}
def fB : FormatSpec := { align := 62, type := some 98 }
theorem parse_b : parseFormatSpec (Str.ofString "b").cps.toList "int" 62 = .ok fB := by rfl
theorem field_b {n : Nat} {Q : Value → Shared → Prop} (hl : (binT n).length ≤ sizeLine) (h : ∀ t' k, Q (.str (binT n) t') { s with toks := k }) : wpAny (model prog w) A (formatField (.int (n : Int) t) (Str.ofString "b")) Q E s := by
  refine PySem.W.KXf.field_int (spec' := Str.ofString "b") (y := binT n) rfl (by decide +kernel) (by decide +kernel) (fun u => ?_) h
  apply PySem.W.KPc.meets_of
  intro prog w A s P E k
  unfold Builtin.«int.__format__»
  have hne : ((Str.ofString "b").length == 0) = false := by decide +kernel
  have hasc : (((Str.ofString "b").cps.toList.drop 1).any (· ≥ 128) || ((Str.ofString "b").cps.getD 0 0 ≥ 128 && !([60, 62, 61, 94] : List Nat).contains ((Str.ofString "b").cps.getD 1 0))) = false := by decide +kernel
  simp only [selfAndOne, noKeywords, Int.intOfSelf, asInt?, asStr?, List.isEmpty_nil, if_true, pure_bind, bind_pure, bind_assoc, hne, hasc, Bool.false_eq_true, if_false,
    show (Value.str (Str.ofString "b") u == Value.none) = false from rfl]
  refine wpAny_bind (wpAny_typeNameOf (T := "str") (typeIs_str _ _ _) (by decide) fun _ => ?_)
  refine wpAny_bind (wpAny_typeNameOfCut_int ?_)
  simp only [parse_b]
  rw [if_pos (by decide +kernel)]
  have ne : Nat.toDigits 2 n ≠ [] := Nat.toDigits_ne_nil
  have main : intField' fB (decide ((n : Int) < 0)) [] ((Nat.toDigits 2 ((n : Int)).natAbs).map Char.toNat) [] 4 = binT n := by
    rw [decide_eq_false (show ¬ (n : Int) < 0 by omega), Int.natAbs_natCast]
    unfold binT binL
    cases hd : Nat.toDigits 2 n with
    | nil => exact absurd hd ne
    | cons c cs =>
      have go : ∀ L : List Nat, L.isEmpty = false → intField' fB false [] L [] 4 = ⟨L.toArray⟩ := fun L hL => by
        unfold intField'
        rw [hL]
        show (⟨(List.replicate (((-1 : Int) - (0 + 0 + 0) - ((List.replicate ((0 : Int).toNat - L.length) 48 ++ L).length : Int)).toNat) 32 ++ [] ++ [] ++ List.replicate 0 32 ++ (List.replicate ((0 : Int).toNat - L.length) 48 ++ L) ++ [] ++ List.replicate 0 32).toArray⟩ : Str) = ⟨L.toArray⟩
        have r0 : (0 : Int).toNat - L.length = 0 := Nat.zero_sub _
        have r1 : ((-1 : Int) - (((0 : Nat) : Int) + ((0 : Nat) : Int) + ((0 : Nat) : Int)) - (L.length : Int)).toNat = 0 := by omega
        rw [r0, List.replicate_zero, List.replicate_zero, List.nil_append, r1]
        simp
      exact go _ rfl
  show wpAny (model prog w) A (retStr _) P E s
  refine PySem.W.KXf.ret_text (T := binT n) ?_ ?_ k
  · exact main
  · refine Nat.le_trans (Nat.le_of_eq ?_) hl
    exact congrArg Str.length main
end
section
variable {X : Cx}
/-- f"{n:b}" -/
theorem pe_fmtB {e spec : Expr} {te : TE} {pos : Pos} (he : PE X e te) (hs : PE X spec (tC (.str (Str.ofString "b")))) : PE X (.FormattedValue e (-1) (some spec) pos) (fun σ H Q => te σ H fun x H1 => ∃ n : Nat, x = .int (n : Int) ∧ (binT n).length ≤ sizeLine ∧ Q (.str (binT n)) H1) := by
  refine ⟨fun pins s σ H Q I h => ?_⟩
  refine wpAny_FormattedValue_spec (thn (he.run pins s σ H _ I h) fun v s1 hv => ?_)
  obtain ⟨x, H1, I1, r1, n, rfl, hl, q⟩ := hv
  obtain ⟨t, rfl⟩ := r1
  refine thn (hs.run pins s1 σ H1 (fun y H2 => y = .str (Str.ofString "b") ∧ Q (.str (binT n)) H2) I1 ⟨rfl, q⟩) fun r s2 hr => ?_
  obtain ⟨y, H2, I2, r2, rfl, q2⟩ := hr
  obtain ⟨t2, rfl⟩ := r2
  exact ⟨_, _, rfl, field_b hl fun t' k => ⟨.str (binT n), H2, I2.tok k, ⟨_, rfl⟩, q2⟩⟩
end
theorem cnt_nat (c : Nat) : ∀ l : List Nat, cnt c l = ((l.count c : Nat) : Int)
  | [] => by rfl
  | x :: l => by
    have ih : countIn (.str ⟨#[c]⟩) (l.map fun n => PyData.str ⟨#[n]⟩) = _ := cnt_nat c l
    show (if same (PyData.str ⟨#[x]⟩) (.str ⟨#[c]⟩) = true then 1 else 0) + countIn (.str ⟨#[c]⟩) (l.map fun n => PyData.str ⟨#[n]⟩) = _
    rw [ih, List.count_cons]
    have e : same (PyData.str ⟨#[x]⟩) (PyData.str ⟨#[c]⟩) = (x == c) := by
      show ((⟨#[x]⟩ : Str) == ⟨#[c]⟩) = _
      by_cases h : x = c
      · subst h
        simp
      · have h2 : ((⟨#[x]⟩ : Str) == ⟨#[c]⟩) = false := beq_eq_false_iff_ne.mpr fun z => h (by injection z with z; injection z with z; injection z with z)
        rw [h2]
        exact (beq_eq_false_iff_ne.mpr h).symm
    rw [e]
    by_cases h : (x == c) = true
    · rw [if_pos h, if_pos h]
      omega
    · rw [if_neg h, if_neg h]
      omega
theorem bitsB_half (N n : Nat) : (bitsB (N + 1) n).length = n % 2 + (bitsB N (n / 2)).length := by
  unfold bitsB
  have e : ((fun j => n.testBit j) ∘ Nat.succ) = fun j => (n / 2).testBit j := funext fun j => Nat.testBit_succ n j
  rw [List.range_succ_eq_map, List.filter_cons, List.filter_map, e, Nat.testBit_zero]
  by_cases h : n % 2 = 1
  · rw [if_pos (decide_eq_true h), List.length_cons, List.length_map]
    omega
  · rw [if_neg (by simpa using h), List.length_map]
    omega
theorem binL_big {n : Nat} (h : 2 ≤ n) : binL n = binL (n / 2) ++ [n % 2 + 48] := by
  unfold binL
  rw [Nat.toDigits_of_base_le (by decide) h, List.map_append]
  congr 1
  have : n % 2 < 2 := Nat.mod_lt _ (by decide)
  rcases (show n % 2 = 0 ∨ n % 2 = 1 by omega) with e | e <;> rw [e] <;> rfl
theorem binL_small {n : Nat} (h : n < 2) : binL n = [n + 48] := by
  unfold binL
  rw [Nat.toDigits_of_lt_base h]
  rcases (show n = 0 ∨ n = 1 by omega) with e | e <;> rw [e] <;> rfl
/-- so many ones as there are bits -/
theorem ones_bits : ∀ (N n : Nat), n < 2 ^ N → (binL n).count 49 = (bitsB N n).length
  | 0, n, h => by
    have : n = 0 := by simpa using h
    subst this
    rw [binL_small (by decide), bits_zero]
    rfl
  | N + 1, n, h => by
    rw [bitsB_half]
    have h2 : n / 2 < 2 ^ N := by
      rw [Nat.pow_succ] at h
      omega
    by_cases b : 2 ≤ n
    · rw [binL_big b, List.count_append, ones_bits N (n / 2) h2, List.count_singleton]
      rcases (show n % 2 = 0 ∨ n % 2 = 1 by omega) with e | e <;> rw [e] <;> simp <;> omega
    · rw [binL_small (by omega), show n / 2 = 0 by omega, bits_zero]
      rcases (show n = 0 ∨ n = 1 by omega) with e | e <;> subst e <;> rfl
theorem bin_len : ∀ (N n : Nat), n < 2 ^ N → (binL n).length ≤ N + 1
  | 0, n, h => by
    have : n = 0 := by simpa using h
    subst this
    rw [binL_small (by decide)]
    exact Nat.le_refl _
  | N + 1, n, h => by
    have h2 : n / 2 < 2 ^ N := by
      rw [Nat.pow_succ] at h
      omega
    by_cases b : 2 ≤ n
    · rw [binL_big b, List.length_append]
      have := bin_len N (n / 2) h2
      simp
      omega
    · rw [binL_small (by omega)]
      simp
theorem count_bin {N n : Nat} (h : n < 2 ^ N) : Txt.count (binT n) (Str.ofString "1") = (((bitsB N n).length : Nat) : Int) := by
  have e : (Str.ofString "1") = ⟨#[49]⟩ := by decide +kernel
  rw [e, count_cnt, cnt_nat]
  show (((binL n).toArray.toList.count 49 : Nat) : Int) = _
  rw [ones_bits N n h]
theorem binT_len {N n : Nat} (h : n < 2 ^ N) (hN : N < 16000000) : (binT n).length ≤ sizeLine := by
  have := bin_len N n h
  show (binL n).toArray.size ≤ _
  rw [List.size_toArray, sizeLine_eq]
  omega
end Vx
namespace Vx
open PySem PySem.Spec PyProof.Rows L2
/-! ### a dict comprehension whose keys are tuples of ints -/
theorem set_compT {X : Cx} {pins : List (Addr × Obj)} {σ : L2.St} {H : Hp} {s : Shared} {E : Value → Shared → Prop} {D b : Addr} {kvs : List (List L2.Key × V)} {k : List L2.Key} {v : V} {r : Value} {Q : Unit → Shared → Prop} (hu : X.A.units < cLine) (I : Inv X pins σ H s)
    (hD : H D = some (.dT kvs)) (few : kvs.length < sizeLine) (eb : H b = some (.tup (k.map kV))) (rv : RelV v r) (h : ∀ s', Inv X pins σ (upd H D (.dT (putK kvs k v))) s' → Q () s') : wpAny (model X.prog X.w) X.A (dictSet D (.ref b) r) Q E s := by
  obtain ⟨lim, notSys, xs, rel, at_⟩ := dt_of I.hok hD
  have lx : xs.length ≤ sizeLine := Paired.length rel ▸ lim
  have lp := length_putK kvs k v
  refine wpAny_dictSet_heap (hsz := lx) (knd := tupleKind (mixKind X.prog X.w)) hu (key_of I.hok eb) at_ fun h' after same => h _ ?_
  obtain ⟨q, es, ep, gq, a1, a2, a3, _, a4⟩ := after
  have other : ∀ c ys, H c = some (.tup ys) → upd H D (.dT (putK kvs k v)) c = some (.tup ys) := fun c ys ec => by
    rw [upd_ne fun e => ?_]
    · exact ec
    · rw [e, hD] at ec
      cases ec
  exact d_write I (by rw [hD]; exact True.intro) same ⟨q, gq⟩ ⟨by omega, notSys, _, (rel.put k eb rv).keeps other, q, es, ep, gq, a1, a2, a3, a4⟩
/-- what one turn of the comprehension asks -/
def AskT (g : TG) (tt : TT) (tk tv : TE) (vs : List Nat) (σ0 : L2.St) (D : Addr) (Nx : Hp → Prop) (x : V) (H' : Hp) : Prop :=
  g x σ0 H' fun σ2 H2 => wipe σ2 vs = σ0 ∧ tt σ2 H2 fun b H3 =>
    if b = true then tk σ2 H3 fun y H4 => tv σ2 H4 fun z H5 => ∃ (kvs : List (List L2.Key × V)) (k : List L2.Key) (b : Addr), y = .ref b ∧ H5 b = some (.tup (k.map kV)) ∧ H5 D = some (.dT kvs) ∧ kvs.length < sizeLine ∧ Nx (upd H5 D (.dT (putK kvs k z))) else Nx H3
/-- one turn, in the comprehension's own block Y -/
theorem turnT {Y : Cx} {tg kx vx : Expr} {ifs : List Expr} {g : TG} {tt : TT} {tk tv : TE} {vs : List Nat} {σ0 : L2.St} {J : It} {fp : List Addr} {it D : Addr} {tn : Nat → Heap → Prop} {Nx : Hp → Prop} {R : Result → Shared → Prop} {Ex : Value → Shared → Prop} {G : Shared → Prop} {i : Nat} {H0 : Hp} {s0 : Shared}
    (hu : Y.A.units < cLine) (calm : Y.calm = true) (quiet : Y.xe = fun _ _ => False) (pg : PG Y tg g) (pt : PTs Y ifs tt) (pk : PE Y kx tk) (pv : PE Y vx tv) (T : Turn Y.prog Y.w Y.K tg J fp it tn)
    (own : ∀ {σ' : L2.St} {H' : Hp} {s' : Shared}, Inv Y [] σ' H' s' → (∀ b ∈ fp, H' b = none) → ∀ b ∈ fp, FpOk Y [] H' b)
    (I0 : Inv Y [] σ0 H0 s0) (st0 : tn i s0.heap) (no0 : ∀ b ∈ fp, H0 b = none) (go : J.go i H0) (ask : ∀ x H', J.yld i H0 x H' → AskT g tt tk tv vs σ0 D Nx x H')
    (fin : ∀ {s' : Shared} {H' : Hp}, Inv Y [] σ0 H' s' → tn (i + 1) s'.heap → (∀ b ∈ fp, H' b = none) → Nx H' → G s') :
    wpAny (model Y.prog Y.w) Y.A (pyNext (.ref it)) (fun r s₁ => match r with
      | none => R (.ok .next) s₁
      | some v => wpAny (model Y.prog Y.w) Y.A (letOwnedTupleGo tg (.ref it) v) (fun _ s₁' => wpAny (model Y.prog Y.w) Y.A (assign tg Y.env v) (fun _ s₂ =>
          wpAny (model Y.prog Y.w) Y.A (forIn ifs true fun c r => if r = true then do let ok ← isTrue c Y.env (eval c Y.env); pure (ForInStep.yield ok) else pure (ForInStep.yield r)) (fun ok s₃ =>
            if ok = true then wpAny (model Y.prog Y.w) Y.A (eval kx Y.env) (fun kv s₄ => wpAny (model Y.prog Y.w) Y.A (eval vx Y.env) (fun vv s₅ =>
              wpAny (model Y.prog Y.w) Y.A (dictSet D kv vv) (fun _ s₆ => G s₆) Ex s₅) Ex s₄) Ex s₃
            else G s₃) Ex s₂) Ex s₁') Ex s₁) Ex s0 := by
  have first := T.item Y rfl rfl rfl calm i [] s0 _ H0 (fun _ _ => False) I0 (own I0 no0) st0 go
  refine thnF first fun r s1 ⟨u, er, took⟩ => ?_
  subst er
  refine thnF took fun _ s2 ⟨x, H1, I1, rx, yx, st1, no1⟩ => ?_
  have J1 := I1.pinned (own I1 no1) (T.obj _ _ st1)
  have rg := pg.run _ s2 _ H1 x u _ J1 rx (ask x H1 yx)
  rw [quiet] at rg
  refine thnF rg fun _ s3 ⟨σ2, H2, I2, back, q2⟩ => ?_
  have rt := pt.run _ s3 σ2 H2 _ I2 q2
  rw [quiet] at rt
  refine thnF rt fun b s4 ⟨H3, I3, q3⟩ => ?_
  -- the end of the turn
  have close : ∀ {s' : Shared} {H' : Hp}, Inv Y ([] ++ pinsAt fp s2.heap) σ2 H' s' → Nx H' → G s' := fun {s' H'} I' nx => by
    have kept : ∀ c ∈ fp, ∀ o, s2.heap.get? c = some o → s'.heap.get? c = some o ∧ H' c = none := fun c hc o e => by
      have z := I'.pin (c, o) (List.mem_append_right _ (List.mem_append_right _ (mem_pinsAt hc e)))
      exact ⟨z.1, z.2.1⟩
    have len : σ0.length = σ2.length := by rw [← back, wipe_length]
    refine fin ((I'.unpinned (pins := [])).weak len fun j v e => ?_) (T.keep _ _ _ st1 fun c hc o e => (kept c hc o e).1) (fun c hc => ?_) nx
    · rw [← back] at e
      exact (wipe_some e).1
    · obtain ⟨o, e, _⟩ := T.obj _ _ st1 c hc
      exact (kept c hc o e).2
  cases b with
  | false => exact close I3 q3
  | true =>
    have rk := pk.run _ s4 σ2 H3 _ I3 q3
    rw [quiet] at rk
    refine thnF rk fun z s5 ⟨yk, H4, I4, ry, q4⟩ => ?_
    have rv := pv.run _ s5 σ2 H4 _ I4 q4
    rw [quiet] at rv
    refine thnF rv fun z2 s6 ⟨yv, H5, I5, rz, kvs, k, c, ek, hc, hD, few, nx⟩ => ?_
    subst ek
    cases ry
    exact set_compT hu I5 hD few hc rz fun s7 I7 => close I7 nx
section
variable {X : Cx}
/-- {k: v for target in iter if ..}: D the new dict -/
def tDcT (wi : TI) (g : TG) (tt : TT) (tk tv : TE) (vs : List Nat) : TE := fun σ H Q => wi σ H fun J H1 => ∀ D, H1 D = none → ∃ W : Nat → Nat → Hp → Prop, (∃ m, W 0 m (upd H1 D (.dT []))) ∧ ∀ i m H, W i m H →
  (J.stop i H ∧ Q (.ref D) H) ∨ (J.go i H ∧ ∃ Nx : Hp → Prop, (∀ H', Nx H' → ∃ m', m' < m ∧ W (i + 1) m' H') ∧ ∀ x H', J.yld i H x H' → AskT g tt tk tv vs (wipe σ vs) D Nx x H')
theorem dc_core {pins : List (Addr × Obj)} {s : Shared} {σ : L2.St} {H : Hp} {Q : VK} {kx vx tg iter : Expr} {ifs : List Expr} {scope : Scope} {own : List (Str × Nat)} {pos pos' : Pos} {wi : TI} {g : TG} {tt : TT} {tk tv : TE} {use : Option (Value → Sem Unit)} {Qf : Value → Shared → Prop} (calm : X.calm = true) (hu : X.A.units < cLine) (hN : X.N.Nodup) (I : Inv X pins σ H s) (hi : PI X tg iter wi) (ok : BlkOk X.N X.env.scope scope own)
    (hg : ∀ (s : Shared) (H : Hp) (C : Addr) (cl : List (Str × Addr)) (fp : List Addr), PG (X.blk s H scope (compEnvC scope cl C X.env) fp) tg g) (ht : ∀ (s : Shared) (H : Hp) (C : Addr) (cl : List (Str × Addr)) (fp : List Addr), PTs (X.blk s H scope (compEnvC scope cl C X.env) fp) ifs tt)
    (hk : ∀ (s : Shared) (H : Hp) (C : Addr) (cl : List (Str × Addr)) (fp : List Addr), PE (X.blk s H scope (compEnvC scope cl C X.env) fp) kx tk)
    (hv : ∀ (s : Shared) (H : Hp) (C : Addr) (cl : List (Str × Addr)) (fp : List Addr), PE (X.blk s H scope (compEnvC scope cl C X.env) fp) vx tv) (hs : ∀ x, foldedSetIterable iter X.env x = pure x) (h : tDcT wi g tt tk tv (own.map (·.2)) σ H Q)
    (hRR : ∀ D C s' m H', Inv X pins σ H' s' → Q (.ref D) H' → s'.heap.Ns C m → FpOk X pins H' C → compPost (model X.prog X.w) X.A X.xe use Qf (.ref D) C (.ok .next) s') :
    wpAny (model X.prog X.w) X.A (comprehension (.DictComp kx vx [⟨tg, iter, ifs, 0⟩] scope pos) scope X.env pos' newDict false (eval iter X.env) use) Qf X.xe s := by
  have hfree : ∀ y ∈ scope.names, y.2 = .free → ∃ c, X.env.cells.lookup y.1 = some c := fun y hy e => (ok.free y hy e).elim (fun k => I.ok.has _ (.inl k)) fun k => I.ok.has _ (.inr k)
  refine wpAny_comprehension_free (use := use) rfl hs (closure_ok hfree) ok.kind (fun y hy e => by rw [ok.uniq y hy, e]) (thn (hi.run pins s σ H _ I h) fun xv s1 hx => thn hx fun itv sI got => ?_)
  obtain ⟨it, fp, tn, J, HI, rfl, II, T, stI, fpI, q⟩ := got
  refine wpAny_newObj_type (newEnv_comp ?_)
  -- the new dict
  obtain ⟨D, eD⟩ : ∃ D, D = sI.heap.objs.size := ⟨_, rfl⟩
  have nD : HI D = none := II.hok.fresh (Nat.le_of_eq eD.symm)
  obtain ⟨W, ⟨m0, w0⟩, turns⟩ := q D nD
  have hE : ∃ sE : Shared, sE = { sI with heap := sI.heap.push { cls := .type "dict", data := .dict #[] } } := ⟨_, rfl⟩
  obtain ⟨sE, eE⟩ := hE
  have pushE : sE.heap = sI.heap.push { cls := .type "dict", data := .dict #[] } := by rw [eE]
  have IE : Inv X pins σ (upd HI D (.dT [])) sE := by
    rw [eE]
    refine II.laid (t' := sI.toks) (fun b o e => Heap.get?_push_of_some _ e) (Nat.le_of_eq eD.symm) ?_
    rw [eD]
    exact dt_empty sI.heap II.big
  have fpE : ∀ b ∈ fp, FpOk X pins (upd HI D (.dT [])) b ∧ b < sE.heap.objs.size := fun b hb => by
    obtain ⟨o, e, _⟩ := T.obj _ _ stI b hb
    have lb := Heap.lt_size e
    obtain ⟨no, more⟩ := fpI b hb
    refine ⟨⟨?_, more⟩, by rw [pushE, Heap.size_push]; exact Nat.lt_succ_of_lt lb⟩
    rw [upd_ne (Nat.ne_of_lt (by rw [eD]; exact lb))]
    exact no
  have stE : tn 0 sE.heap := T.keep _ _ _ stI fun b _ o e => by rw [pushE]; exact Heap.get?_push_of_some _ e
  -- the block
  have IB := block_start IE ok hN fpE
  have pgB := hg sE (upd HI D (.dT [])) sE.heap.objs.size (cellsFrom (sE.heap.objs.size + 1) scope.names (cloFrom X.env.cells scope.names [])) fp
  have ptB := ht sE (upd HI D (.dT [])) sE.heap.objs.size (cellsFrom (sE.heap.objs.size + 1) scope.names (cloFrom X.env.cells scope.names [])) fp
  have pkB := hk sE (upd HI D (.dT [])) sE.heap.objs.size (cellsFrom (sE.heap.objs.size + 1) scope.names (cloFrom X.env.cells scope.names [])) fp
  have pvB := hv sE (upd HI D (.dT [])) sE.heap.objs.size (cellsFrom (sE.heap.objs.size + 1) scope.names (cloFrom X.env.cells scope.names [])) fp
  rw [← eD]
  have eS : ({ sI with heap := sI.heap.push { cls := .type "dict", data := .dict #[] } } : Shared) = sE := eE.symm
  rw [eS]
  show codeAny _ _ (.compStart (.DictComp kx vx [⟨tg, iter, ifs, 0⟩] scope pos) 0 (.ref it) (.ref D) (compEnvC scope (cellsFrom (sE.heap.objs.size + 1) scope.names (cloFrom X.env.cells scope.names [])) sE.heap.objs.size X.env)) _ _
  have noE : ∀ b ∈ fp, upd HI D (.dT []) b = none := fun b hb => (fpE b hb).1.1
  obtain ⟨env, eEnv⟩ : ∃ env, env = compEnvC scope (cellsFrom (sE.heap.objs.size + 1) scope.names (cloFrom X.env.cells scope.names [])) sE.heap.objs.size X.env := ⟨_, rfl⟩
  have locE : env.locals = sE.heap.objs.size := by rw [eEnv]; rfl
  rw [← eEnv] at IB pgB ptB pkB pvB ⊢
  obtain ⟨HE, eHE⟩ : ∃ HE, HE = upd HI D (.dT []) := ⟨_, rfl⟩
  rw [← eHE] at IE IB pgB ptB pkB pvB w0 noE fpE
  obtain ⟨sB, eB⟩ : ∃ sB : Shared, sB = { sE with heap := pushCells (sE.heap.push { cls := .type "dict", data := .dict #[] }) scope.names } := ⟨_, rfl⟩
  rw [← eB] at IB ⊢
  have stB : tn 0 sB.heap := T.keep _ _ _ stE fun b _ o e => by rw [eB]; exact pushCells_keeps _ _ _ _ (Heap.get?_push_of_some _ e)
  have ownB : ∀ {σ' : L2.St} {H' : Hp} {s' : Shared}, Inv (X.blk sE HE scope env fp) [] σ' H' s' → (∀ b ∈ fp, H' b = none) → ∀ b ∈ fp, FpOk (X.blk sE HE scope env fp) [] H' b := fun {σ' H' s'} I' no b hb =>
    ⟨no b hb, (I'.ok.exf b hb).1, I'.ok.exfs b hb, .inl hb, fun x c e => (I'.ok.exf b hb).2 x c e, fun p hp => absurd (show p ∈ ([] : List (Addr × Obj)) ++ [] from hp) (by simp)⟩
  have loop : codeAny (model X.prog X.w) X.A (.compLoop (.DictComp kx vx [⟨tg, iter, ifs, 0⟩] scope pos) 0 (.ref it) (.ref D) env) (compPost (model X.prog X.w) X.A X.xe use Qf (.ref D) sE.heap.objs.size) sB := by
    refine compLoop_anyD (fun n s' => ∃ i H', Inv (X.blk sE HE scope env fp) [] (wipe σ (own.map (·.2))) H' s' ∧ tn i s'.heap ∧ (∀ b ∈ fp, H' b = none) ∧ W i n H') ?_ m0 ⟨0, HE, IB, stB, noE, w0⟩
    rintro n s5 ⟨i, H5, I5, st5, no5, w5⟩
    rcases turns i n H5 w5 with ⟨stop, done⟩ | ⟨go, Nx, less, ask⟩
    · refine thnF (T.done (X.blk sE HE scope env fp) rfl rfl rfl calm i [] s5 _ H5 (fun _ _ => False) I5 (ownB I5 no5) st5 stop) fun r s6 ⟨er, I6⟩ => ?_
      subst er
      have IX : Inv X pins σ H5 s6 := IE.call' (ch := fp) I6.os I6.base I6.hok I6.bare fun b hb => by
        obtain ⟨_, f1, _, f3, f4, f5⟩ := (fpE b hb).1
        exact ⟨f3, f1, f4, f5⟩
      have nC : H5 sE.heap.objs.size = none := by
        rw [← locE]
        exact I6.free
      obtain ⟨m, hn, _⟩ := I6.loc
      have hn : s6.heap.Ns env.locals m := hn
      rw [locE] at hn
      exact hRR D _ s6 m H5 IX done hn (IE.fpOk (Nat.le_refl _) nC)
    · refine turnT (Y := X.blk sE HE scope env fp) (G := fun s' => ∃ m, m < n ∧ ∃ i H', Inv (X.blk sE HE scope env fp) [] (wipe σ (own.map (·.2))) H' s' ∧ tn i s'.heap ∧ (∀ b ∈ fp, H' b = none) ∧ W i m H') hu calm rfl pgB ptB pkB pvB T ownB I5 st5 no5 go ask fun {s' H'} I' st' no' nx => ?_
      obtain ⟨m, lm, w'⟩ := less H' nx
      exact ⟨m, lm, i + 1, H', I', st', no', w'⟩
  exact codeAny_compStart_dict loop (T.self X.A 0 _ _ _ stB loop)
theorem pe_dcT {kx vx tg iter : Expr} {ifs : List Expr} {scope : Scope} {own : List (Str × Nat)} {pos : Pos} {wi : TI} {g : TG} {tt : TT} {tk tv : TE} (calm : X.calm = true) (hu : X.A.units < cLine) (hN : X.N.Nodup) (hi : PI X tg iter wi) (ok : BlkOk X.N X.env.scope scope own)
    (hg : ∀ (s : Shared) (H : Hp) (C : Addr) (cl : List (Str × Addr)) (fp : List Addr), PG (X.blk s H scope (compEnvC scope cl C X.env) fp) tg g) (ht : ∀ (s : Shared) (H : Hp) (C : Addr) (cl : List (Str × Addr)) (fp : List Addr), PTs (X.blk s H scope (compEnvC scope cl C X.env) fp) ifs tt)
    (hk : ∀ (s : Shared) (H : Hp) (C : Addr) (cl : List (Str × Addr)) (fp : List Addr), PE (X.blk s H scope (compEnvC scope cl C X.env) fp) kx tk)
    (hv : ∀ (s : Shared) (H : Hp) (C : Addr) (cl : List (Str × Addr)) (fp : List Addr), PE (X.blk s H scope (compEnvC scope cl C X.env) fp) vx tv) (hs : ∀ x, foldedSetIterable iter X.env x = pure x := by intro _; rfl) :
    PE X (.DictComp kx vx [⟨tg, iter, ifs, 0⟩] scope pos) (tDcT wi g tt tk tv (own.map (·.2))) := by
  refine ⟨fun pins s σ H Q I h => ?_⟩
  rw [arm_eval_DictComp]
  refine dc_core (use := none) calm hu hN I hi ok hg ht hk hv hs h fun D C s' m H' I' q hn f => ?_
  obtain ⟨f0, f1, f2, f3, f4, f5⟩ := f
  exact ⟨m, hn, fun h'' sb => ⟨.ref D, H', I'.turned (t' := s'.toks) (fun b o hb e => (sb.2 b hb).trans e) f0 f1 f3 f4 f5, rfl, q⟩⟩
theorem sw_dict {kx vx : Expr} {gs : List Comprehension} {scope : Scope} {pos py : Pos} {y : Str} {l : Nat} {env : Env} (hk : env.scope.kind = .function) (hy : env.scope.names.lookup y = some .local) (hl : (py.line == pos.line) = true)
    (ha : (scope.names.any fun (n, k) => n == y && (k == .local || k == .cell)) = false) : swapsWith (.DictComp kx vx gs scope pos) (some (.Name y py)) l env = pure true := by
  have ky : env.kindOf y = some .local := hy
  have hb : env.blockKind = .function := by unfold Env.blockKind; rw [hk]; rfl
  unfold swapsWith
  simp only [hb, ky, ha, Expr.pos, hl]
  rfl
theorem ps_setDcT {i : Nat} {y : Str} {py : Pos} {kx vx tg iter : Expr} {ifs : List Expr} {scope : Scope} {own : List (Str × Nat)} {pos spos : Pos} {wi : TI} {g : TG} {tt : TT} {tk tv : TE} (calm : X.calm = true) (hu : X.A.units < cLine) (hN : X.N.Nodup) (hy : X.N[i]? = some y) (hyl : X.env.scope.names.lookup y = some .local)
    (hsw : swapsWith (.DictComp kx vx [⟨tg, iter, ifs, 0⟩] scope pos) (some (.Name y py)) spos.line X.env = pure true) (hi : PI X tg iter wi) (ok : BlkOk X.N X.env.scope scope own)
    (hg : ∀ (s : Shared) (H : Hp) (C : Addr) (cl : List (Str × Addr)) (fp : List Addr), PG (X.blk s H scope (compEnvC scope cl C X.env) fp) tg g) (ht : ∀ (s : Shared) (H : Hp) (C : Addr) (cl : List (Str × Addr)) (fp : List Addr), PTs (X.blk s H scope (compEnvC scope cl C X.env) fp) ifs tt)
    (hk : ∀ (s : Shared) (H : Hp) (C : Addr) (cl : List (Str × Addr)) (fp : List Addr), PE (X.blk s H scope (compEnvC scope cl C X.env) fp) kx tk)
    (hv : ∀ (s : Shared) (H : Hp) (C : Addr) (cl : List (Str × Addr)) (fp : List Addr), PE (X.blk s H scope (compEnvC scope cl C X.env) fp) vx tv) (hs : ∀ x, foldedSetIterable iter X.env x = pure x := by intro _; rfl) :
    PS X (.Assign [.Name y py] (.DictComp kx vx [⟨tg, iter, ifs, 0⟩] scope pos) spos) (tAsg (tDcT wi g tt tk tv (own.map (·.2))) (gName i)) := by
  refine ⟨fun pins s σ H D I h => ?_⟩
  rw [exec_Assign_Name_used _ _ _ _ hsw]
  refine wpAny_bind (wpAny_standAt (wpAny_bind ?_))
  show wpAny _ X.A (do let _ ← comprehension (.DictComp kx vx [⟨tg, iter, ifs, 0⟩] scope pos) scope X.env (firstIterPos [⟨tg, iter, ifs, 0⟩] pos) newDict false (eval iter X.env) (some (assign (.Name y py) X.env))) _ _ s
  have h : tDcT wi g tt tk tv (own.map (·.2)) σ H (fun x H1 => gName i x σ H1 D.nx) := h
  refine wpAny_bind (thn (dc_core (Qf := fun _ s' => SP X pins D .next s') calm hu hN I hi ok hg ht hk hv hs h fun L C s' m H' I' q hn f => ?_) fun _ s' hq => wpAny_pure (wpAny_pure hq))
  show wpAny _ _ (assign (.Name y py) X.env (.ref L)) _ _ _
  refine wpAny_assign_Name (store_ok2 (v := V.ref L) I' hN hy (.inl hyl) rfl (fun s2 I2 ⟨a, sb, ha⟩ => ?_) (.inr hyl))
  obtain ⟨f0, f1, f2, f3, f4, f5⟩ := f
  have haC : C ≠ a := by
    rcases ha with z | z
    · rw [z]; exact f1
    · exact fun e => f4 y a z e.symm
  refine ⟨m, hn.sameBut sb haC, fun h3 sb3 => ?_⟩
  exact ⟨_, H', I2.turned (t' := s2.toks) (fun b o hb e => (sb3.2 b hb).trans e) f0 f1 f3 f4 f5, q⟩
/-- over a walk -/
theorem dcT_it {J : It} {n : Nat} {G : Hp → Prop} {Y : Nat → Hp → V → Hp → Prop} (w : Walk J n G Y) {g : TG} {tt : TT} {tk tv : TE} {vs : List Nat} {σ : L2.St} {H1 : Hp} {D : Addr} {Qd : Hp → Prop} (Pv : Nat → Hp → Prop) (h0 : Pv 0 (upd H1 D (.dT []))) (hG : ∀ i H, i ≤ n → Pv i H → G H)
    (hs : ∀ i x H H', i < n → Pv i H → Y i H x H' → AskT g tt tk tv vs (wipe σ vs) D (Pv (i + 1)) x H') (hd : ∀ H, Pv n H → Qd H) :
    ∃ W : Nat → Nat → Hp → Prop, (∃ m, W 0 m (upd H1 D (.dT []))) ∧ ∀ i m H, W i m H →
      (J.stop i H ∧ Qd H) ∨ (J.go i H ∧ ∃ Nx : Hp → Prop, (∀ H', Nx H' → ∃ m', m' < m ∧ W (i + 1) m' H') ∧ ∀ x H', J.yld i H x H' → AskT g tt tk tv vs (wipe σ vs) D Nx x H') := by
  refine ⟨fun i m H => m + i = n ∧ Pv i H, ⟨n, rfl, h0⟩, ?_⟩
  rintro i m H ⟨e, p⟩
  have st := hG i H (by omega) p
  by_cases lt : i < n
  · exact .inr ⟨w.goes i H lt st, Pv (i + 1), fun H' p' => ⟨m - 1, by omega, by omega, p'⟩, fun x H' y => hs i x H H' lt p (w.yields i H x H' lt st y)⟩
  · have : i = n := by omega
    subst this
    exact .inl ⟨w.stops H st, hd H p⟩
end
end Vx
namespace Vx
open PySem PySem.Spec PyProof.Rows L2
/-! ### enumerate(v), v a tuple -/
set_option maxHeartbeats 1000000 in
theorem meets_enumerate_new1 {v : Value} {o : Obj} {H : Heap → Prop} (B : Begins v o H) :
    Meets (Builtin.«enumerate.__new__» ⟨[.type "enumerate", v], []⟩) (fun _ R s => H s.heap ∧
      R (.ok (.ret (.ref (s.heap.push o).objs.size))) { s with heap := (s.heap.push o).push { cls := .type "enumerate", data := .fields #[.none, .bool false, .ref s.heap.objs.size, rawInt 0, .none, .none] } }) :=
  .of_wp fun prog w A R s h => by
    obtain ⟨hp, g, d, tk, os⟩ := s; obtain ⟨h1, h⟩ := h
    have hsub := sub_enumerate
    have q1 : ∀ {A' : Around} {E : Value → Shared → Prop} {Q : Value → Shared → Prop}, Q (.ref hp.objs.size) ⟨hp.push o, g, d, tk, os⟩ → wpAny (model prog w) A' (pyIter v) Q E ⟨hp, g, d, tk, os⟩ :=
      fun q => B.iter prog w _ _ ⟨hp, g, d, tk, os⟩ _ h1 q
    wp_walk using q1
    refine wpAny_stack_any fun st => wpAny_pure ?_
    split
    · rename_i c _ _ _ _ _
      cases (c == Value.type "enumerate")
      · wp_walk using q1
        exact ⟨_, rfl, h⟩
      · wp_walk using q1
        exact ⟨_, rfl, h⟩
    · wp_walk using q1
      exact ⟨_, rfl, h⟩
theorem call_enumerate1 {prog : Program} {w : World} {A : Around} {E : Value → Shared → Prop} {s : Shared} {v : Value} {o : Obj} {H : Heap → Prop} {Q : Value → Shared → Prop} (B : Begins v o H) (h1 : H s.heap)
    (h : ∀ h', IsEnum h' (s.heap.objs.size + 1) s.heap.objs.size 0 .none → h'.get? s.heap.objs.size = some o → h'.objs.size = s.heap.objs.size + 2 →
      (∀ b o, s.heap.get? b = some o → h'.get? b = some o) → Q (.ref (s.heap.objs.size + 1)) { s with heap := h' }) :
    wpAny (model prog w) A (call (.type "enumerate") [v]) Q E s := by
  refine callType_new F.called_enumerate (by decide) (F.typeCall_enumerate_1 _) (F.newCall_enumerate_1 _) (fun obj => F.args_object_init_2 obj _) F.entry_enumerate_new
    (meets_enumerate_new1 B) ⟨h1, ?_⟩
  have hz : (s.heap.push o).objs.size = s.heap.objs.size + 1 := Heap.size_push ..
  show _ ∧ _
  rw [hz]
  have he : IsEnum ((s.heap.push o).push { cls := .type "enumerate", data := .fields #[.none, .bool false, .ref s.heap.objs.size, rawInt 0, .none, .none] }) (s.heap.objs.size + 1) s.heap.objs.size 0 .none := by
    have := Heap.get?_push_size (s.heap.push o) (o := { cls := .type "enumerate", data := .fields #[.none, .bool false, .ref s.heap.objs.size, rawInt 0, .none, .none] }) rfl
    rw [hz] at this; exact this
  refine ⟨⟨_, he, rfl⟩, h _ he (Heap.get?_push_of_some _ (Heap.get?_push_size _ B.free)) (by rw [Heap.size_push, hz]) fun b o x => Heap.get?_push_of_some _ (Heap.get?_push_of_some _ x)⟩
def IteT (K : PySem.W.Frag) (a : Addr) : It :=
  ⟨fun i H => ∃ (xs : List V) (x : V), SqT K H a xs ∧ xs[i]? = some x, fun i H v H' => ∃ T x, v = .ref T ∧ H T = none ∧ H' = upd H T (.tup [.int (i : Nat), x]) ∧ ∀ xs, SqT K H a xs → xs[i]? = some x, fun i H => ∃ xs : List V, SqT K H a xs ∧ xs.length = i⟩
theorem turn_enumT {P : Program} {w : World} {K : PySem.W.Frag} {elts : List Expr} {kk : Nat} {tpos : Pos} (a e it : Addr) (nae : a ≠ e) (nai : a ≠ it) :
    Turn P w K (.Tuple elts kk tpos) (IteT K a) [e, it] e (fun i h => (∃ old, IsEnum h e it ((i : Nat) : Int) old) ∧ h.IsTupleIter it a i ∧ e ≠ it) where
  mem := by simp
  obj := fun i h st b hb => by
    obtain ⟨⟨old, he⟩, ⟨o, ho, hc, hd⟩, _⟩ := st
    have e' : b = e ∨ b = it := by simpa using hb
    rcases e' with z | z
    · rw [z]; exact ⟨_, he, fun v q => nomatch q⟩
    · rw [z]; exact ⟨o, ho, fun v q => by rw [hd] at q; cases q⟩
  keep := fun i h h' st k => let ⟨⟨old, he⟩, hi, hne⟩ := st; ⟨⟨old, k e (by simp) _ he⟩, hi.at fun o q => k it (by simp) o q, hne⟩
  item := by
    intro X hP hw hK hc i pins s σ H E I hf st hg
    subst hP hw hK
    obtain ⟨⟨old, he⟩, hit, hne⟩ := st
    obtain ⟨xs, x, hq, hx⟩ := hg
    obtain ⟨its, rv, p, hz⟩ := I.tuple hq
    obtain ⟨u, hu, ru⟩ := rv.get hx
    have hel : e < s.heap.objs.size := Heap.lt_size he
    have hil : it < s.heap.objs.size := by obtain ⟨_, q, _⟩ := hit; exact Heap.lt_size q
    have D := Draws.tuple (prog := X.prog) (w := X.w) (A := X.A.in1) (I.ok.hd hc) it a nai its.toArray
    have li : i < its.toArray.size := by
      have := List.getElem?_eq_some_iff.mp hu
      obtain ⟨q, _⟩ := this
      simpa using q
    refine wpAny_pyNext_enum_itemC D he ⟨hit, p⟩ li hne (by simp; exact ⟨hne, fun z => nae z.symm⟩) fun x' h' tk hx' ho hit' hT hsz hk => ?_
    have ex : x' = u := by
      have z : its.toArray[i]? = some x' := hx'
      rw [List.getElem?_toArray, hu] at z
      exact (Option.some.inj z).symm
    subst ex
    refine ⟨_, rfl, wpAny_letOwnedTupleGo_enum (s := { s with heap := h', toks := tk + 1 }) ho fun h'' he' sb => ?_⟩
    have hT2 : h''.get? s.heap.objs.size = some { cls := .type "tuple", data := .seq #[.int i tk, x'] } := (sb.2 _ (Nat.ne_of_gt hel)).trans hT
    have new : ObjOk X.prog X.w (upd H s.heap.objs.size (.tup [.int (i : Nat), x])) h'' s.heap.objs.size (.tup [.int (i : Nat), x]) :=
      ⟨by show 2 ≤ sizeLine; decide, [.int i tk, x'], .cons ⟨_, rfl⟩ (.cons ru .nil), ⟨_, hT2, rfl, _, rfl⟩⟩
    have I1 : Inv X pins σ (upd H s.heap.objs.size (.tup [.int (i : Nat), x])) { s with heap := h'', toks := tk + 1 } :=
      I.turnedNew (ch := [e, it]) (fun b ob hb q => (sb.2 b (fun z => hb (by simp [z]))).trans (hk b ob (fun z => hb (by simp [z])) (fun z => hb (by simp [z])) q)) hf (Nat.le_refl _) new
    refine ⟨.ref s.heap.objs.size, _, I1, rfl, ⟨_, x, rfl, I.hok.fresh (Nat.le_refl _), rfl, fun ys hy => by rw [I.tuple_inj hy hq]; exact hx⟩, ⟨⟨x', ?_⟩, hit'.1.at fun o q => (sb.2 it (Ne.symm hne)).trans q, hne⟩, fun b hb => ?_⟩
    · have e1 : ((i + 1 : Nat) : Int) = (i : Int) + 1 := by omega
      rw [e1]; exact he'
    · have hb' : b < s.heap.objs.size := by
        have e' : b = e ∨ b = it := by simpa using hb
        rcases e' with z | z
        · rw [z]; exact hel
        · rw [z]; exact hil
      rw [upd_ne (Nat.ne_of_lt hb')]
      exact (hf b hb).1
  done := by
    intro X hP hw hK hc i pins s σ H E I hf st hg
    subst hP hw hK
    obtain ⟨⟨old, he⟩, hit, hne⟩ := st
    obtain ⟨xs, hq, hx⟩ := hg
    obtain ⟨its, rv, p, hz⟩ := I.tuple hq
    obtain ⟨f0, f1, f2, f3, f4, f5⟩ := hf it (by simp)
    have hl := rv.length
    have D := Draws.tuple (prog := X.prog) (w := X.w) (A := X.A.in1) (I.ok.hd hc) it a nai its.toArray
    have en : i = its.toArray.size := by simp; omega
    refine wpAny_pyNext_enum_endD D he ?_ fun h' eb => ⟨rfl, I.turned (t' := s.toks) (fun b o hb q => eb b o hb q) f0 f1 f3 f4 f5⟩
    rw [← en]
    exact ⟨hit, p⟩
  self := fun A i s Q E st h => let ⟨⟨_, he⟩, _⟩ := st; wpAny_pyIter_enum he h
def iEnumT (K : PySem.W.Frag) (ta : TA) : TI := fun σ H R => ta σ H fun vs H1 => ∃ a xs, vs = [.ref a] ∧ SqT K H1 a xs ∧ R (IteT K a) H1
theorem pi_enumT {X : Cx} {e : Expr} {ta : TA} {p pos tpos : Pos} {elts : List Expr} {kk : Nat} (hg : Gl X "enumerate") (hm : X.mg "enumerate" = none) (ha : PA X [e] ta) (hs : starEach [e] X.env = [(false, eval e X.env)] := by rfl) :
    PI X (.Tuple elts kk tpos) (.Call (.Name "enumerate" p) [e] [] pos) (iEnumT X.K ta) := by
  refine ⟨fun pins s σ H R I h => ?_⟩
  refine Call_ (ld_blt I hg hm boot_enumerate (PyProof.Rows.callWith_type1 (thn (ha.run pos pins s σ H _ I h) fun us s1 ⟨vs, H1, I1, r1, q1⟩ => ?_) hs rfl))
  obtain ⟨a, xs, ex, hq, q⟩ := q1
  subst ex
  cases r1 with
  | cons r rr =>
    cases rr
    cases r
    obtain ⟨its, rv, p', hz⟩ := I1.tuple hq
    have la : a < s1.heap.objs.size := by obtain ⟨o, e, _⟩ := p'; exact Heap.lt_size e
    refine call_enumerate1 (begins_tuple a its.toArray) (show s1.heap.IsTuple a its.toArray from p') fun h' he hit hsz hk => wpAny_pyIter_enum he ?_
    have I2 : Inv X pins σ H1 { s1 with heap := h' } := I1.kept (t' := s1.toks) hk
    refine ⟨s1.heap.objs.size + 1, [s1.heap.objs.size + 1, s1.heap.objs.size], _, _, H1, rfl, I2, turn_enumT a (s1.heap.objs.size + 1) s1.heap.objs.size (Nat.ne_of_lt (Nat.lt_succ_of_lt la)) (Nat.ne_of_lt la), ⟨⟨.none, he⟩, ⟨_, hit, rfl, rfl⟩, Nat.succ_ne_self _⟩, fun b hb => ?_, q⟩
    have e' : b = s1.heap.objs.size + 1 ∨ b = s1.heap.objs.size := by simpa using hb
    have hle : s1.heap.objs.size ≤ b := by
      rcases e' with z | z
      · rw [z]; exact Nat.le_add_right _ _
      · rw [z]; exact Nat.le_refl _
    exact I1.fpOk hle (I1.hok.fresh hle)
theorem walk_enumT {K : PySem.W.Frag} {a : Addr} {xs : List V} : Walk (IteT K a) xs.length (fun H => SqT K H a xs) (YPair (fun i => some (.int (i : Nat))) (fun i => xs[i]?)) := by
  refine ⟨fun i _ hi q => ⟨xs, xs[i], q, by simp [hi]⟩, fun _ q => ⟨xs, q, rfl⟩, fun i H v H' _ q y => ?_⟩
  obtain ⟨T, x, h1, h2, h3, h4⟩ := y
  exact ⟨T, .int (i : Nat), x, h1, h2, h3, rfl, h4 xs q⟩
end Vx
namespace Vx
open PySem PySem.Spec PyProof.Rows L2
/-- isinstance of the caught error, its class told by the reading -/
theorem call_isE2 {X : Cx} {a D : Addr} {oe : Obj} {cls : Value} {d : Option Addr} {pn : List (Addr × Obj)} (C : ExcC X.K D) (hz : Zc cls d oe) (hf : ∃ vs, oe.data = .fields vs) :
    CallR (X.suite a ((a, oe) :: pn)) (.builtin "isinstance") (fun xs H Q => cls = .ref D ∧ d = none ∧ rIsE X.K D a xs H Q) := fun pins s σ H xs us Q I r h => by
  obtain ⟨h1, h2, h3⟩ := h
  subst h1 h2
  exact call_isE C hz hf pins s σ H xs us Q I r h3
theorem kit_sub {K : PySem.W.Frag} {D C : Addr} {b : Bool} (hc : PySem.W.isClsIn K C = true) (ht : PySem.W.typeIn K (.ref C) = some (.type "type")) (h1 : PySem.W.subIn K (.ref D) (.ref D) = some true) (h2 : PySem.W.subIn K (.ref D) (.ref C) = some b) :
    PySem.W.kitOne K (.ref D) (.ref C) = some b := by
  unfold PySem.W.kitOne
  by_cases e : D = C
  · subst e
    rw [h1] at h2
    rw [if_pos (beq_self_eq_true _)]
    exact h2
  · rw [if_neg (by intro q; exact e (Value.ref.inj (beq_iff_eq.mp q)))]
    unfold PySem.W.kitCls
    have hc' : (PySem.W.clsIn K C).isSome = true := hc
    have e2 : ((PySem.W.clsIn K C).isSome && PySem.W.typeIn K (.ref C) == some (.type "type")) = true := by rw [hc', ht]; rfl
    show (if ((PySem.W.clsIn K C).isSome && PySem.W.typeIn K (.ref C) == some (.type "type")) = true then PySem.W.subIn K (.ref D) (.ref C) else none) = some b
    rw [if_pos e2]
    exact h2
theorem kit_ve {K : PySem.W.Frag} {D : Addr} {b : Bool} (h2 : PySem.W.subIn K (.ref D) (.type "ValueError") = some b) : PySem.W.kitOne K (.ref D) (.type "ValueError") = some b := by
  unfold PySem.W.kitOne
  rw [if_neg (by intro q; cases (beq_iff_eq.mp q))]
  show (if PySem.W.kitMeta "ValueError" = true then PySem.W.subIn K (.ref D) (.type "ValueError") else none) = some b
  rw [if_pos (by decide +kernel)]
  exact h2
end Vx
namespace Vx
open PySem PySem.Spec PyProof.Rows L2
theorem op_notInP {X : Cx} (hu : X.A.units + 65 < cLine) : OpR X (compareOp .NotIn) (fun x y H Q => ∃ (t a : Addr) (p : Pr) (ps : List Pr), x = .ref t ∧ y = .ref a ∧ H t = some (.tup [.int p.1, .int p.2]) ∧ Cells H a ps ∧ Q (.bl (!decide (p ∈ ps))) H) := by
  intro pins s σ H x y v u Q I rx ry h
  obtain ⟨t, a, p, ps, rfl, rfl, ht, hc, q⟩ := h
  refine op_notInD hu pins s σ H _ _ v u Q I rx ry ⟨pd p, ps.map pd, .tup (tup_of ht) (.cons (.int _) (.cons (.int _) .nil)), dp_cells hc, shaped_pd p, shaped_cells ps, ?_⟩
  rw [any_pd]
  exact q
/-! ### lists of lists of pairs -/
def lp (ps : List Pr) : PyData := .list (ps.map pd)
def CellsL (H : Hp) (l : Addr) (pss : List (List Pr)) : Prop :=
  ∃ ts : List (Addr × List Pr), H l = some (.lst (ts.map fun t => V.ref t.1)) ∧ (∀ t ∈ ts, Cells H t.1 t.2) ∧ ts.map (·.2) = pss
theorem CellsL.up {H H' : Hp} {l : Addr} {pss : List (List Pr)} (e : Same H H') (h : CellsL H l pss) : CellsL H' l pss := by
  obtain ⟨ts, h1, h2, h3⟩ := h
  exact ⟨ts, e _ _ h1, fun t m => (h2 t m).up e, h3⟩
theorem CellsL.lst {H : Hp} {l : Addr} {pss : List (List Pr)} (h : CellsL H l pss) : ∃ xs, H l = some (.lst xs) ∧ xs.length = pss.length := by
  obtain ⟨ts, h1, h2, h3⟩ := h
  exact ⟨_, h1, by rw [← h3, List.length_map, List.length_map]⟩
theorem CellsL.at {H : Hp} {l : Addr} {pss : List (List Pr)} {i : Nat} {ps : List Pr} (h : CellsL H l pss) (e : pss[i]? = some ps) : ∃ xs a, H l = some (.lst xs) ∧ xs[i]? = some (.ref a) ∧ Cells H a ps := by
  obtain ⟨ts, h1, h2, rfl⟩ := h
  rw [List.getElem?_map] at e
  cases q : ts[i]? with
  | none => rw [q] at e; cases e
  | some t =>
    rw [q] at e
    refine ⟨_, t.1, h1, by rw [List.getElem?_map, q]; rfl, ?_⟩
    rw [← Option.some.inj e]
    exact h2 t (List.mem_of_getElem? q)
theorem CellsL.mut {H : Hp} {l d : Addr} {pss : List (List Pr)} {o : HO} (h : CellsL H l pss) (ne : l ≠ d) (nl : ∀ xs, H d ≠ some (.lst xs)) (nt : ∀ xs, H d ≠ some (.tup xs)) : CellsL (upd H d o) l pss := by
  obtain ⟨ts, h1, h2, h3⟩ := h
  refine ⟨ts, by rw [upd_ne ne]; exact h1, fun t m => (h2 t m).mut (fun e => ?_) nt, h3⟩
  obtain ⟨us, z, _⟩ := h2 t m
  rw [e] at z
  exact nl _ z
theorem eqv_lp (a b : List Pr) : PyData.eqv (lp a) (lp b) = decide (a = b) := eqv_cells a b
theorem eqvAll_lp : ∀ (l m : List (List Pr)), PyData.eqvAll (l.map lp) (m.map lp) = decide (l = m)
  | [], [] => by simp [PyData.eqvAll]
  | [], y :: m => by simp [PyData.eqvAll]
  | x :: l, [] => by simp [PyData.eqvAll]
  | x :: l, y :: m => by
    show (PyData.eqv (lp x) (lp y) && PyData.eqvAll (l.map lp) (m.map lp)) = _
    rw [eqvAll_lp l m, eqv_lp]
    by_cases e : x = y <;> by_cases e2 : l = m <;> simp [e, e2]
theorem eqv_lps (l m : List (List Pr)) : PyData.eqv (.list (l.map lp)) (.list (m.map lp)) = decide (l = m) := eqvAll_lp l m
theorem canAll_lp : ∀ l : List (List Pr), PyData.canLayAll0 (l.map lp) = true
  | [] => by simp [PyData.canLayAll0]
  | x :: l => by
    rw [List.map_cons]
    simp [PyData.canLayAll0, PyData.canLay0, lp, canAll_pd, canAll_lp l]
theorem depAll_lp : ∀ l : List (List Pr), PyData.depthAll (l.map lp) ≤ 2
  | [] => by simp [PyData.depthAll]
  | x :: l => by
    rw [List.map_cons]
    have := depAll_lp l
    have := depAll_pd x
    simp only [PyData.depthAll, PyData.depth, lp]
    omega
theorem shaped_lp (l : List Pr) : SeqAt.shaped (lp l) = true := shaped_cells l
theorem shaped_lps (l : List (List Pr)) : SeqAt.shaped (.list (l.map lp)) = true := by
  unfold SeqAt.shaped
  have := depAll_lp l
  simp only [PyData.canLay0, PyData.depth, canAll_lp]
  simp
  omega
theorem any_lp (p : List Pr) : ∀ ps : List (List Pr), (ps.map lp).any (fun z => PyData.eqv z (lp p)) = decide (p ∈ ps)
  | [] => by simp
  | q :: ps => by
    rw [List.map_cons, List.any_cons, any_lp p ps, eqv_lp]
    by_cases e : q = p
    · subst e
      simp
    · have e2 : ¬ p = q := fun z => e z.symm
      simp [e, e2]
theorem dp_cellsL {K : PySem.W.Frag} {H : Hp} {a : Addr} {pss : List (List Pr)} (h : CellsL H a pss) : Dp K H (.ref a) (.list (pss.map lp)) := by
  obtain ⟨ts, hl, ht, rfl⟩ := h
  refine .lst (lst_of hl) ?_
  have go : ∀ us : List (Addr × List Pr), (∀ t ∈ us, Cells H t.1 t.2) → DpAll K H (us.map fun t => V.ref t.1) ((us.map (·.2)).map lp) := fun us => by
    induction us with
    | nil => exact fun _ => .nil
    | cons t us ih => exact fun h => .cons (dp_cells (h t List.mem_cons_self)) (ih fun u m => h u (List.mem_cons_of_mem _ m))
  exact go ts ht
theorem op_inL {X : Cx} (hu : X.A.units + 65 < cLine) : OpR X (compareOp .In) (fun x y H Q => ∃ (t a : Addr) (p : List Pr) (ps : List (List Pr)), x = .ref t ∧ y = .ref a ∧ Cells H t p ∧ CellsL H a ps ∧ Q (.bl (decide (p ∈ ps))) H) := by
  intro pins s σ H x y v u Q I rx ry h
  obtain ⟨t, a, p, ps, rfl, rfl, ht, hc, q⟩ := h
  refine op_inD hu pins s σ H _ _ v u Q I rx ry ⟨lp p, ps.map lp, dp_cells ht, dp_cellsL hc, shaped_lp p, shaped_lps ps, ?_⟩
  rw [any_lp]
  exact q
theorem mt_indexL {X : Cx} (hu : X.A.units + 65 < cLine) : MtR X "list.index" (fun x xs H Q => ∃ (a t : Addr) (p : List Pr) (ps : List (List Pr)), x = .ref a ∧ xs = [.ref t] ∧ Cells H t p ∧ CellsL H a ps ∧
    ∃ j, ps[j]? = some p ∧ (∀ m p', m < j → ps[m]? = some p' → p' ≠ p) ∧ Q (.int (j : Nat)) H) := by
  intro pins s σ H x xs v us Q I rx rxs h
  obtain ⟨a, t, p, ps, rfl, rfl, ht, hc, j, hj, hno, q⟩ := h
  refine mt_indexD hu pins s σ H _ _ v us Q I rx rxs ⟨a, .ref t, lp p, ps.map lp, j, lp p, rfl, rfl, dp_cellsL hc, dp_cells ht, shaped_lps ps, shaped_lp p, by rw [List.getElem?_map, hj]; rfl, by rw [eqv_lp]; exact decide_eq_true rfl, fun m z' hm hz => ?_, q⟩
  rw [List.getElem?_map] at hz
  obtain ⟨p', hp, rfl⟩ := Option.map_eq_some_iff.mp hz
  rw [eqv_lp]
  exact decide_eq_false (hno m p' hm hp)
theorem CellsL.add {H : Hp} {l t : Addr} {pss : List (List Pr)} {ps : List Pr} {vs : List V} (h : CellsL H l pss) (hv : H l = some (.lst vs)) (hc : Cells H t ps) (ne : t ≠ l) : CellsL (upd H l (.lst (vs ++ [.ref t]))) l (pss ++ [ps]) := by
  obtain ⟨ts, h1, h2, rfl⟩ := h
  have e : vs = ts.map fun t => V.ref t.1 := by
    rw [h1] at hv
    injection hv with hv
    injection hv with hv
    exact hv.symm
  subst e
  have nt : ∀ xs, H l ≠ some (.tup xs) := fun xs z => by
    rw [h1] at z
    cases z
  have nl : ∀ u ∈ ts, u.1 ≠ l := fun u m e => by
    obtain ⟨us, g1, g2, _⟩ := h2 u m
    rw [e, h1] at g1
    injection g1 with g1
    injection g1 with g1
    have mu : V.ref u.1 ∈ ts.map fun t => V.ref t.1 := List.mem_map.mpr ⟨u, m, rfl⟩
    rw [g1] at mu
    obtain ⟨y, my, ey⟩ := List.mem_map.mp mu
    have ey : y.1 = u.1 := V.ref.inj ey
    have z := g2 y my
    rw [ey, e, h1] at z
    cases z
  refine ⟨ts ++ [(t, ps)], by rw [upd_same, List.map_append]; rfl, fun u m => ?_, by rw [List.map_append]; rfl⟩
  rcases List.mem_append.mp m with m | m
  · exact (h2 u m).mut (nl u m) nt
  · rw [List.mem_singleton.mp m]
    exact hc.mut ne nt
theorem CellsL.one {H : Hp} {l t : Addr} {ps : List Pr} (h : H l = some (.lst [.ref t])) (hc : Cells H t ps) : CellsL H l [ps] := ⟨[(t, ps)], h, fun u m => by rw [List.mem_singleton.mp m]; exact hc, rfl⟩
/-- a statement with a word of one's own behind it -/
def tMid (t : TS) : TS := fun D σ H => ∃ P : L2.St → Hp → Prop, t { D with nx := P } σ H ∧ ∀ σ' H', P σ' H' → D.nx σ' H'
theorem ps_mid {X : Cx} {st : Stmt} {t : TS} (h : PS X st t) : PS X st (tMid t) := by
  refine ⟨fun pins s σ H D I hw => ?_⟩
  obtain ⟨P, h1, h2⟩ := hw
  refine thn (h.run pins s σ H _ I h1) fun f s1 q => ?_
  cases f with
  | next =>
    obtain ⟨σ', H', I2, q⟩ := q
    exact ⟨σ', H', I2, h2 _ _ q⟩
  | brk => exact q
  | cont => exact q
  | ret v => exact q
/-- an expression with a word of one's own behind it -/
def tMidE (t : TE) : TE := fun σ H Q => ∃ P : V → Hp → Prop, t σ H P ∧ ∀ v H', P v H' → Q v H'
theorem pe_mid {X : Cx} {e : Expr} {t : TE} (h : PE X e t) : PE X e (tMidE t) := by
  refine ⟨fun pins s σ H Q I hw => ?_⟩
  obtain ⟨P, h1, h2⟩ := hw
  exact thn (h.run pins s σ H _ I h1) fun v s1 ⟨x, H1, I2, r, q⟩ => ⟨x, H1, I2, r, h2 _ _ q⟩
end Vx
namespace Vx
open PySem PySem.Spec PyProof.Rows L2
/-! ### the least one of some lists of pairs -/
def ltL (a b : List Pr) : Bool := W.dataLt (lp a) (lp b)
theorem toksAll_inj : ∀ (a b : List Pr), W.keyToksAll (a.map pd) = W.keyToksAll (b.map pd) → a = b
  | [], [], _ => rfl
  | [], y :: b, h => by simp [W.keyToksAll] at h
  | x :: a, [], h => by simp [W.keyToksAll] at h
  | x :: a, y :: b, h => by
    obtain ⟨x1, x2⟩ := x
    obtain ⟨y1, y2⟩ := y
    simp [W.keyToksAll, W.keyToks, pd] at h
    obtain ⟨h1, h2, h3⟩ := h
    rw [h1, h2, toksAll_inj a b h3]
theorem lp_inj {a b : List Pr} (h : lp a = lp b) : a = b := by
  have : PyData.eqv (lp a) (lp b) = true := by
    rw [h, eqv_lp]
    exact decide_eq_true rfl
  rw [eqv_lp] at this
  exact of_decide_eq_true this
theorem ltL_irr (a : List Pr) : ltL a a = false := lex_irrefl _
theorem ltL_trans {a b c : List Pr} (h : ltL a b = true) (h2 : ltL b c = true) : ltL a c = true := lex_trans _ _ _ h h2
theorem ltL_neg {a b c : List Pr} (h : ltL a c = true) : ltL a b = true ∨ ltL b c = true := lex_negTrans _ _ _ h
theorem ltL_total {a b : List Pr} (h : ltL a b = false) (h2 : ltL b a = false) : a = b := by
  have e := lex_total _ _ h h2
  exact toksAll_inj a b e
def minL (x : List Pr) (xs : List (List Pr)) : List Pr := xs.foldl (fun a y => if ltL y a then y else a) x
def LeastL (m : List Pr) (xs : List (List Pr)) : Prop := m ∈ xs ∧ ∀ y ∈ xs, ltL y m = false
theorem minL_least : ∀ (xs : List (List Pr)) (x : List Pr), LeastL (minL x xs) (x :: xs)
  | [], x => ⟨List.mem_cons_self, fun y m => by rw [List.mem_singleton.mp m]; exact ltL_irr x⟩
  | y :: xs, x => by
    show LeastL (minL (if ltL y x then y else x) xs) (x :: y :: xs)
    have ih := minL_least xs (if ltL y x then y else x)
    generalize minL (if ltL y x then y else x) xs = m at ih
    obtain ⟨h1, h2⟩ := ih
    by_cases c : ltL y x = true
    · rw [if_pos c] at h1 h2
      refine ⟨List.mem_cons_of_mem _ h1, fun z mz => ?_⟩
      rcases List.mem_cons.mp mz with e | mz
      · rw [e]
        refine Bool.eq_false_iff.mpr fun t => ?_
        have := h2 y List.mem_cons_self
        rw [ltL_trans c t] at this
        cases this
      · exact h2 z mz
    · rw [if_neg c] at h1 h2
      have c := Bool.eq_false_iff.mpr c
      refine ⟨?_, fun z mz => ?_⟩
      · rcases List.mem_cons.mp h1 with e | m1
        · rw [e]
          exact List.mem_cons_self
        · exact List.mem_cons_of_mem _ (List.mem_cons_of_mem _ m1)
      · rcases List.mem_cons.mp mz with e | mz
        · exact h2 z (e ▸ List.mem_cons_self)
        · rcases List.mem_cons.mp mz with e | mz
          · rw [e]
            refine Bool.eq_false_iff.mpr fun t => ?_
            rcases ltL_neg (b := x) t with t | t
            · rw [c] at t
              cases t
            · rw [h2 x List.mem_cons_self] at t
              cases t
          · exact h2 z (List.mem_cons_of_mem _ mz)
theorem LeastL.uniq {a b : List Pr} {xs ys : List (List Pr)} (h : LeastL a xs) (h2 : LeastL b ys) (e : ∀ x, x ∈ xs ↔ x ∈ ys) : a = b :=
  ltL_total (h2.2 a ((e a).mp h.1)) (h.2 b ((e b).mpr h2.1))
theorem minD_lp (x : List Pr) : ∀ xs : List (List Pr), W.minD (lp x) (xs.map lp) = lp (minL x xs) := by
  intro xs
  unfold W.minD minL
  induction xs generalizing x with
  | nil => rfl
  | cons y xs ih =>
    rw [List.map_cons, List.foldl_cons, List.foldl_cons, ← ih]
    congr 1
    show (if ltL y x = true then lp y else lp x) = _
    split <;> rfl
theorem alike_pd (x y : Pr) : W.alike (pd x) (pd y) = true := rfl
theorem alikeAll_pd : ∀ a b : List Pr, W.alikeAll (a.map pd) (b.map pd) = true
  | [], _ => by simp [W.alikeAll]
  | _ :: _, [] => by simp [W.alikeAll]
  | x :: a, y :: b => by
    rw [List.map_cons, List.map_cons, W.alikeAll, alike_pd, alikeAll_pd a b]
    rfl
theorem alike_lp (a b : List Pr) : W.alike (lp a) (lp b) = true := by
  unfold lp
  rw [W.alike]
  exact alikeAll_pd a b
theorem plainAll_pd : ∀ l : List Pr, PyData.plainAll (l.map pd) = true
  | [] => by simp [PyData.plainAll]
  | x :: l => by
    rw [List.map_cons]
    simp [PyData.plainAll, PyData.plain, pd, plainAll_pd l]
theorem plain_lp (l : List Pr) : PyData.plain (lp l) = true := by
  unfold lp
  rw [PyData.plain]
  exact plainAll_pd l
theorem plainAll_lp : ∀ l : List (List Pr), PyData.plainAll (l.map lp) = true
  | [] => by simp [PyData.plainAll]
  | x :: l => by
    rw [List.map_cons, PyData.plainAll, plain_lp, plainAll_lp l]
    rfl
section
variable {X : Cx}
theorem cr_minL (hc : X.calm = true) (hu : X.A.units + 65 < cLine) : CallR X (.builtin "min") (fun xs H Q => ∃ l x xss, xs = [V.ref l] ∧ CellsL H l (x :: xss) ∧ ∀ a, Cells H a (minL x xss) → Q (.ref a) H) := by
  intro pins s σ H xs us Q I r h
  obtain ⟨l, x, xss, rfl, ⟨ts, hl, ht, ets⟩, q⟩ := h
  obtain ⟨its, rv, pl, hz⟩ := I.list (lst_of hl)
  rw [Vals.ref1 r]
  have dpa : DpAll X.K H (ts.map fun t => V.ref t.1) ((x :: xss).map lp) := by
    rw [← ets]
    have go : ∀ us : List (Addr × List Pr), (∀ t ∈ us, Cells H t.1 t.2) → DpAll X.K H (us.map fun t => V.ref t.1) ((us.map (·.2)).map lp) := fun us => by
      induction us with
      | nil => exact fun _ => .nil
      | cons t us ih => exact fun h => .cons (dp_cells (h t List.mem_cons_self)) (ih fun u m => h u (List.mem_cons_of_mem _ m))
    exact go ts ht
  obtain ⟨as, hr⟩ := Dp.readsAll I _ _ its dpa rv
  have dep := depAll_lp (x :: xss)
  have er : its = ts.map fun t => Value.ref t.1 := by
    have go : ∀ (us : List (Addr × List Pr)) (vs : List Value), Vals (us.map fun t => V.ref t.1) vs → vs = us.map fun t => Value.ref t.1 := fun us => by
      induction us with
      | nil => intro vs h; cases h; rfl
      | cons u us ih =>
        intro vs h
        cases h with
        | cons r1 r2 =>
          cases r1
          rw [ih _ r2]
          rfl
    exact go ts its rv
  refine W.min_list_data (x := lp x) (xs := xss.map lp) (I.ok.hd hc) pl.isList hr ⟨fun a ma b mb => ?_, fun a ma => ?_⟩ (by rw [← List.map_cons]; omega) fun i v h' tk bs hv rd k => ?_
  · obtain ⟨a, _, rfl⟩ := List.mem_map.mp (show a ∈ (x :: xss).map lp from ma)
    obtain ⟨b, _, rfl⟩ := List.mem_map.mp (show b ∈ (x :: xss).map lp from mb)
    exact alike_lp a b
  · obtain ⟨a, _, rfl⟩ := List.mem_map.mp (show a ∈ (x :: xss).map lp from ma)
    intro z
    cases z
  · rw [minD_lp] at rd
    have hv' : its[i]? = some v := by simpa using hv
    rw [er, List.getElem?_map] at hv'
    obtain ⟨t, et, rfl⟩ := Option.map_eq_some_iff.mp hv'
    have mt := List.mem_of_getElem? et
    obtain ⟨as2, r2⟩ := Dp.reads I (lp t.2) (.ref t.1) (.ref t.1) (dp_cells (ht t mt)) rfl
    have e := W.alike_unique _ _ _ _ _ (alike_lp _ _) rd (Reads.keeps k r2)
    refine ⟨.ref t.1, H, I.kept k, rfl, q t.1 ?_⟩
    rw [lp_inj e]
    exact ht t mt
theorem count_lp (p : List Pr) : ∀ pss : List (List Pr), (pss.map lp).countP (fun y => PyData.eqv y (lp p)) = pss.count p
  | [] => rfl
  | x :: pss => by
    rw [List.map_cons, List.countP_cons, List.count_cons, count_lp p pss, eqv_lp]
    by_cases e : x = p
    · simp [e]
    · simp [e]
theorem mt_countL (hu : X.A.units + 65 < cLine) : MtR X "list.count" (fun x xs H Q => ∃ (a t : Addr) (p : List Pr) (pss : List (List Pr)), x = .ref a ∧ xs = [.ref t] ∧ Cells H t p ∧ CellsL H a pss ∧ Q (.int (pss.count p : Nat)) H) := by
  intro pins s σ H x xs v us Q I rx rxs h
  obtain ⟨a, t, p, pss, rfl, rfl, hp, hl, q⟩ := h
  cases rx
  obtain ⟨u, rfl, ru⟩ := rxs.one
  obtain ⟨as, r1⟩ := Dp.reads I (lp p) (.ref t) u (dp_cells hp) ru
  have dl := dp_cellsL (K := X.K) hl
  have dep := depAll_lp pss
  cases dl with
  | lst hs ha =>
    obtain ⟨its, rv, pl, hz⟩ := I.list hs
    obtain ⟨bs, hr⟩ := Dp.readsAll I _ _ its ha rv
    refine SeqAt.count_list_data pl.isList hr r1 (plainAll_lp pss) (plain_lp p) (by have := Nat.min_le_left (PyData.depthAll (pss.map lp)) (lp p).depth; omega) ?_
    rw [count_lp]
    exact ⟨.int (pss.count p : Nat), H, I.tok _, ⟨_, rfl⟩, q⟩
end
theorem ix_listK {X : Cx} {K : PySem.W.Frag} (hK : X.K = K) : IxR X (rIxL K) := by
  subst hK
  exact ix_list
theorem op_eqDK {X : Cx} {K : PySem.W.Frag} (hK : X.K = K) (hu : X.A.units + 64 < cLine) : OpR X (compareOp .Eq) (rEqD K) := by
  subst hK
  exact op_eqD hu
/-- a comprehension over such a list, a new list of pairs for each -/
theorem lc_lists {K : PySem.W.Frag} {l : Addr} {pss : List (List Pr)} {g : TG} {tt : TT} {te : TE} {vs : List Nat} {σ : L2.St} {H1 : Hp} {D : Addr} {Qd : Hp → Prop} (f : List Pr → List Pr) (hC : CellsL H1 l pss) (nD : H1 D = none) (few : pss.length < sizeLine)
    (hs : ∀ (t : Addr) (ps : List Pr) (H' : Hp) (Po : V → Hp → Prop) (Pn : Hp → Prop), ps ∈ pss → Same H1 H' → Cells H' t ps → (∀ H2 t2, Same H' H2 → H' t2 = none → Cells H2 t2 (f ps) → Po (.ref t2) H2) →
      g (.ref t) (wipe σ vs) H' fun σ2 H2 => wipe σ2 vs = wipe σ vs ∧ tt σ2 H2 fun b H3 => if b = true then te σ2 H3 Po else Pn H3)
    (hd : ∀ H', Same H1 H' → CellsL H' D (pss.map f) → Qd H') :
    ∃ W : Nat → Nat → Hp → Prop, (∃ m, W 0 m (upd H1 D (.lst []))) ∧ ∀ i m H, W i m H →
      ((Itl K l).stop i H ∧ Qd H) ∨ ((Itl K l).go i H ∧ ∃ Nx : Hp → Prop, (∀ H', Nx H' → ∃ m', m' < m ∧ W (i + 1) m' H') ∧ ∀ x H', (Itl K l).yld i H x H' → g x (wipe σ vs) H' fun σ2 H2 => wipe σ2 vs = wipe σ vs ∧ tt σ2 H2 fun b H3 =>
        if b = true then te σ2 H3 fun y H4 => ∃ acc, H4 D = some (.lst acc) ∧ acc.length < sizeLine ∧ Nx (upd H4 D (.lst (acc ++ [y]))) else Nx H3) := by
  obtain ⟨ts, hl, ht, rfl⟩ := hC
  rw [List.length_map] at few
  refine lc_list (K := K) (a := l) (xs := ts.map fun t => V.ref t.1) (fun i H' => Same H1 H' ∧ ∃ us : List (Addr × List Pr), H' D = some (.lst (us.map fun t => V.ref t.1)) ∧ (∀ t ∈ us, t.1 ≠ D ∧ Cells H' t.1 t.2) ∧ us.map (·.2) = ((ts.map (·.2)).take i).map f)
    ⟨newS nD, [], upd_same, fun _ m => (by cases m), rfl⟩ (fun i H' _ p => lst_of (p.1 _ _ hl)) ?_ ?_
  · rintro i x H' hi ⟨sm, us, h1, h2, h3⟩
    rw [List.getElem?_map] at hi
    obtain ⟨t, et, rfl⟩ := Option.map_eq_some_iff.mp hi
    have mt := List.mem_of_getElem? et
    have ei : (ts.map (·.2))[i]? = some t.2 := by rw [List.getElem?_map, et]; rfl
    have li := (List.getElem?_eq_some_iff.mp et).1
    have ul : us.length = i := by
      have z := congrArg List.length h3
      rw [List.length_map, List.length_map, List.length_take, List.length_map] at z
      omega
    refine hs t.1 t.2 H' _ _ (List.mem_map.mpr ⟨t, mt, rfl⟩) sm ((ht t mt).up sm) fun H2 t2 e2 n2 hc => ⟨us.map fun t => V.ref t.1, e2 _ _ h1, by rw [List.length_map]; omega, mutS (sm.trans e2) nD, us ++ [(t2, f t.2)], ?_, ?_, ?_⟩
    · rw [upd_same, List.map_append]
      rfl
    · have nD2 : t2 ≠ D := fun e => by
        rw [e, h1] at n2
        cases n2
      have nt : ∀ xs, H2 D ≠ some (.tup xs) := fun xs e => by
        rw [e2 _ _ h1] at e
        cases e
      intro u m
      rcases List.mem_append.mp m with m | m
      · exact ⟨(h2 u m).1, ((h2 u m).2.up e2).mut (h2 u m).1 nt⟩
      · rw [List.mem_singleton.mp m]
        exact ⟨nD2, hc.mut nD2 nt⟩
    · rw [List.map_append, h3, take_next ei, List.map_append]
      rfl
  · rintro H' ⟨sm, us, h1, h2, h3⟩
    refine hd H' sm ⟨us, h1, fun t m => (h2 t m).2, ?_⟩
    rw [h3, List.length_map, List.take_of_length_le (by rw [List.length_map]; exact Nat.le_refl _)]
end Vx
namespace Vx
open PySem PySem.Spec PyProof.Rows L2
/-! ### comprehensions with any number of loops: one loop -/
def turnF (p : Pos) (tg : Expr) (ifs : List Expr) (em : (Unit → Sem PySem.Fin) → Sem PySem.Fin) (c : Code) (it : Value) (env : Env) : Sem PySem.Fin := do
  standAt p
  let r ← pyNext it
  match r with
  | none => pure (Fin.done Flow.next)
  | some v => do
    letOwnedTupleGo tg it v
    assign tg env v
    let s ← forIn ifs true fun c r => if r = true then do
        let ok ← PySem.isTrue c env (eval c env)
        pure (ForInStep.yield ok)
      else pure (ForInStep.yield r)
    if s = true then em fun _ => again c else again c
def finP (R : Result → Shared → Prop) (c : Code) (I : Nat → Shared → Prop) (n : Nat) : PySem.Fin → Shared → Prop := fun fin s' => match fin with
  | Fin.done f => R (Except.ok f) s'
  | Fin.again c' => c' = c ∧ ∃ m, m < n ∧ I m s'
theorem loopG {prog : Program} {w : World} {A : Around} {R : Result → Shared → Prop} {s : Shared} {e : Expr} {d : Nat} {it acc : Value} {env : Env} {p : Pos} {tg : Expr} {ifs : List Expr} {em : (Unit → Sem PySem.Fin) → Sem PySem.Fin}
    (hq : (Code.compLoop e d it acc env).quiet = true) (hun : A.under (Code.compLoop e d it acc env) = A) (hden : (model prog w).den (Code.compLoop e d it acc env) = Sem.onRaise (compTurn e d it acc env) fun x => do
      noteFrame x env
      theTreesLotGoes x)
    (ht : compTurn e d it acc env = turnF p tg ifs em (Code.compLoop e d it acc env) it env) (I : Nat → Shared → Prop)
    (turn : ∀ n s, I n s → wpAny (model prog w) A (pyNext it) (fun r s1 => match r with
        | none => R (Except.ok Flow.next) s1
        | some v => wpAny (model prog w) A (letOwnedTupleGo tg it v) (fun _ s2 => wpAny (model prog w) A (assign tg env v) (fun _ s3 =>
            wpAny (model prog w) A (forIn ifs true fun c r => if r = true then do
                let ok ← PySem.isTrue c env (eval c env)
                pure (ForInStep.yield ok)
              else pure (ForInStep.yield r)) (fun ok s4 => if ok = true then wpAny (model prog w) A (em fun _ => again (Code.compLoop e d it acc env)) (finP R (Code.compLoop e d it acc env) I n) (notedBy (model prog w) A env fun e s' => R (Except.error e) s') s4 else ∃ m, m < n ∧ I m s4)
              (notedBy (model prog w) A env fun e s' => R (Except.error e) s') s3)
            (notedBy (model prog w) A env fun e s' => R (Except.error e) s') s2)
          (notedBy (model prog w) A env fun e s' => R (Except.error e) s') s1)
      (notedBy (model prog w) A env fun e s' => R (Except.error e) s') s) (n : Nat) (h : I n s) : codeAny (model prog w) A (Code.compLoop e d it acc env) R s := by
  refine codeAny_loop hq I (fun n s hI => ?_) n h
  rw [hun, hden]
  refine wpAny_noted ?_
  rw [ht]
  unfold turnF
  refine wpAny_bind (wpAny_standAt (wpAny_bind (wpAny_mono (turn n s hI) (fun r s1 h1 => ?_) fun _ _ z => z)))
  cases r with
  | none => exact wpAny_pure h1
  | some v =>
    refine wpAny_bind (wpAny_mono h1 (fun _ s2 h2 => ?_) fun _ _ z => z)
    refine wpAny_bind (wpAny_mono h2 (fun _ s3 h3 => ?_) fun _ _ z => z)
    refine wpAny_bind (wpAny_mono h3 (fun ok s4 h4 => ?_) fun _ _ z => z)
    cases ok with
    | true =>
      rw [if_pos rfl] at h4 ⊢
      exact h4
    | false =>
      rw [if_neg (by decide)] at h4 ⊢
      exact wpAny_pure ⟨rfl, h4⟩
theorem startG {prog : Program} {w : World} {A : Around} {R : Result → Shared → Prop} {s : Shared} {e : Expr} {d : Nat} {it acc : Value} {env : Env} {g : Comprehension}
    (hq : ∀ it', (Code.compLoop e d it' acc env).quiet = true) (hun : A.under (Code.compStart e d it acc env) = A) (hden : (model prog w).den (Code.compStart e d it acc env) = Sem.onRaise (compStart e d it acc env) fun x => do
      noteFrame x env
      standAt theWindowsPlace)
    (hg : (clausesOf e)[d]? = some g) (ha : g.is_async = 0)
    (h0 : codeAny (model prog w) A (Code.compLoop e d it acc env) R s)
    (h : wpAny (model prog w) A (pyIter it) (fun it' s' => codeAny (model prog w) A (Code.compLoop e d it' acc env) R s') (notedBy (model prog w) A env fun x s' => R (Except.error x) s') s) :
    codeAny (model prog w) A (Code.compStart e d it acc env) R s := by
  refine codeAny_of_tree ?_
  rw [hun, hden]
  refine wpAny_notedAt ?_
  unfold compStart
  rw [hg]
  have z : ((some g).elim false fun x : Comprehension => x.is_async != 0) = false := by
    show (g.is_async != 0) = false
    rw [ha]
    rfl
  rw [z, if_neg (by decide)]
  refine wpAny_bind (wpAny_askSetting (wpAny_ite ?_))
  by_cases c : ({ program := (model prog w).prog, params := (model prog w).w.params } : Setting).params.followText "comprehension-iter-twice" = true
  · rw [if_pos c]
    exact wpAny_pure ⟨hq it, h0⟩
  · rw [if_neg c]
    refine wpAny_bind (wpAny_rule (wpAny_bind (wpAny_standAt (wpAny_bind (wpAny_mono h (fun it' s' h' => wpAny_pure ⟨hq it', h'⟩) fun _ _ z => z)))))
theorem lvl {Y : Cx} {pins : List (Addr × Obj)} {tg : Expr} {g : TG} {ifs : List Expr} {tt : TT} {J : It} {fp : List Addr} {it : Addr} {tn : Nat → Heap → Prop} (hc : Y.calm = true) (xe0 : Y.xe = fun _ _ => False) (T : Turn Y.prog Y.w Y.K tg J fp it tn) (pg : PG Y tg g) (pt : PTs Y ifs tt)
    {e : Expr} {d : Nat} {acc : Value} {p : Pos} {em : (Unit → Sem PySem.Fin) → Sem PySem.Fin} {R : Result → Shared → Prop}
    (hq : (Code.compLoop e d (.ref it) acc Y.env).quiet = true) (hun : Y.A.under (Code.compLoop e d (.ref it) acc Y.env) = Y.A) (hden : (model Y.prog Y.w).den (Code.compLoop e d (.ref it) acc Y.env) = Sem.onRaise (compTurn e d (.ref it) acc Y.env) fun x => do
      noteFrame x Y.env
      theTreesLotGoes x)
    (ht : compTurn e d (.ref it) acc Y.env = turnF p tg ifs em (Code.compLoop e d (.ref it) acc Y.env) (.ref it) Y.env)
    {EM : L2.St → Hp → (Hp → Prop) → Prop} {vs : List Nat} {σ0 : L2.St}
    (hem : ∀ (pins : List (Addr × Obj)) (s : Shared) (σ : L2.St) (H : Hp) (Nx : Hp → Prop) (Post : PySem.Fin → Shared → Prop) (E : Value → Shared → Prop), L2.Inv Y pins σ H s → EM σ H Nx → (∀ s' H', L2.Inv Y pins (wipe σ vs) H' s' → Nx H' → Post (Fin.again (Code.compLoop e d (.ref it) acc Y.env)) s') →
      wpAny (model Y.prog Y.w) Y.A (em fun _ => again (Code.compLoop e d (.ref it) acc Y.env)) Post E s)
    {W : Nat → Nat → Hp → Prop} {Qe : Hp → Prop}
    (turn : ∀ i m H, W i m H → (J.stop i H ∧ Qe H) ∨ (J.go i H ∧ ∃ Nx : Hp → Prop, (∀ H', Nx H' → ∃ m', m' < m ∧ W (i + 1) m' H') ∧ ∀ x H', J.yld i H x H' → g x (wipe σ0 vs) H' fun σ2 H2 => wipe σ2 vs = wipe σ0 vs ∧ tt σ2 H2 fun b H3 => if b = true then EM σ2 H3 Nx else Nx H3))
    (hR : ∀ s1 H, L2.Inv Y pins (wipe σ0 vs) H s1 → Qe H → R (Except.ok Flow.next) s1)
    {s : Shared} {H : Hp} {m : Nat} (I : L2.Inv Y pins (wipe σ0 vs) H s) (t0 : tn 0 s.heap) (hfp : ∀ b ∈ fp, FpOk Y pins H b) (w0 : W 0 m H) :
    codeAny (model Y.prog Y.w) Y.A (Code.compLoop e d (.ref it) acc Y.env) R s := by
  refine loopG hq hun hden ht (fun n s => ∃ i H, L2.Inv Y pins (wipe σ0 vs) H s ∧ tn i s.heap ∧ (∀ b ∈ fp, H b = none) ∧ W i n H) ?_ m ⟨0, H, I, t0, fun b hb => (hfp b hb).1, w0⟩
  rintro n s ⟨i, H1, I1, t1, nn, w1⟩
  have fpo : ∀ {H' : Hp}, (∀ b ∈ fp, H' b = none) → ∀ b ∈ fp, FpOk Y pins H' b := fun z b hb => ⟨z b hb, (hfp b hb).2⟩
  have no : ∀ {E : Value → Shared → Prop} (a : Value) (s : Shared), (fun _ _ => False : Value → Shared → Prop) a s → E a s := fun _ _ z => z.elim
  rcases turn i n H1 w1 with ⟨st, qe⟩ | ⟨go, Nx, nx, y⟩
  · refine wpAny_mono (T.done Y rfl rfl rfl hc i pins s _ H1 (fun _ _ => False) I1 (fpo nn) t1 st) (fun r s1 h1 => ?_) no
    obtain ⟨rfl, I2⟩ := h1
    exact hR s1 H1 I2 qe
  · refine wpAny_mono (T.item Y rfl rfl rfl hc i pins s _ H1 (fun _ _ => False) I1 (fpo nn) t1 go) (fun r s1 h1 => ?_) no
    obtain ⟨u, rfl, h1⟩ := h1
    refine wpAny_mono h1 (fun _ s2 h2 => ?_) no
    obtain ⟨x, H2, I2, rx, yl, t2, nn2⟩ := h2
    have P2 := I2.pinned (fpo nn2) (T.obj _ _ t2)
    have r3 := pg.run _ s2 _ H2 x u _ P2 rx (y x H2 yl)
    rw [xe0] at r3
    refine wpAny_mono r3 (fun _ s3 h3 => ?_) no
    obtain ⟨σ3, H3, I3, ew, h3⟩ := h3
    have r4 := pt.run _ s3 σ3 H3 _ I3 h3
    rw [xe0] at r4
    refine wpAny_mono r4 (fun ok s4 h4 => ?_) no
    obtain ⟨H4, I4, h4⟩ := h4
    have back : ∀ {s' : Shared} {H' : Hp}, L2.Inv Y (pins ++ pinsAt fp s2.heap) (wipe σ3 vs) H' s' → Nx H' → ∃ m, m < n ∧ ∃ i H, L2.Inv Y pins (wipe σ0 vs) H s' ∧ tn i s'.heap ∧ (∀ b ∈ fp, H b = none) ∧ W i m H := fun {s' H'} I' nx' => by
      obtain ⟨m', lm, w'⟩ := nx H' nx'
      have pin : ∀ b ∈ fp, ∀ o, s2.heap.get? b = some o → s'.heap.get? b = some o ∧ H' b = none := fun b hb o ho => by
        have := I'.pin (b, o) (List.mem_append.mpr (.inr (List.mem_append.mpr (.inr (mem_pinsAt hb ho)))))
        exact ⟨this.1, this.2.1⟩
      refine ⟨m', lm, i + 1, H', ?_, T.keep _ _ _ t2 fun b hb o ho => (pin b hb o ho).1, fun b hb => ?_, w'⟩
      · rw [← ew]
        exact I'.unpinned
      · obtain ⟨o, ho, _⟩ := T.obj _ _ t2 b hb
        exact (pin b hb o ho).2
    cases ok with
    | true =>
      rw [if_pos rfl] at h4 ⊢
      exact hem _ s4 σ3 H4 Nx _ _ I4 h4 fun s' H' I' n' => ⟨rfl, back I' n'⟩
    | false =>
      rw [if_neg (by decide)] at h4 ⊢
      exact back (I4.weak (wipe_length ..) fun _ _ z => (wipe_some z).1) h4
/-! ### what stands within a loop -/
def emL0 (elt : Expr) (acc : Value) (env : Env) : Sem Unit := do
  let x ← eval elt env
  let _ ← call (Value.builtin "list.append") [acc, x]
  pure ()
def emL (elt : Expr) (acc : Value) (env : Env) (k : Unit → Sem PySem.Fin) : Sem PySem.Fin := emL0 elt acc env >>= k
def emI (e : Expr) (d : Nat) (i1 : Expr) (acc : Value) (env : Env) (k : Unit → Sem PySem.Fin) : Sem PySem.Fin := do
  let x ← eval i1 env
  standAt i1.pos
  let x ← foldedSetIterable i1 env x
  let it ← holding [x] (pyIter x)
  let _ ← runOwn (Code.compStart e d it acc env) env
  k ()
abbrev EMT := L2.St → Hp → (Hp → Prop) → Prop
def tEm (te : TE) (D : Addr) : EMT := fun σ H Nx => te σ H fun y H4 => ∃ acc, H4 D = some (.lst acc) ∧ acc.length < sizeLine ∧ Nx (upd H4 D (.lst (acc ++ [y])))
def tTurns (J : It) (g : TG) (tt : TT) (vs : List Nat) (EM : EMT) (σ : L2.St) (Qe : Hp → Prop) (W : Nat → Nat → Hp → Prop) : Prop :=
  ∀ i m H, W i m H → (J.stop i H ∧ Qe H) ∨ (J.go i H ∧ ∃ Nx : Hp → Prop, (∀ H', Nx H' → ∃ m', m' < m ∧ W (i + 1) m' H') ∧ ∀ x H', J.yld i H x H' → g x (wipe σ vs) H' fun σ2 H2 => wipe σ2 vs = wipe σ vs ∧ tt σ2 H2 fun b H3 => if b = true then EM σ2 H3 Nx else Nx H3)
def tIn (wi : TI) (g : TG) (tt : TT) (vs : List Nat) (EM : EMT) : EMT := fun σ H Nx => wi σ H fun J H4 => ∃ W, (∃ m, W 0 m H4) ∧ tTurns J g tt vs EM σ Nx W
/-- an inner part runs -/
def Runs (Y : Cx) (vs : List Nat) (EM : EMT) (em : (Unit → Sem PySem.Fin) → Sem PySem.Fin) : Prop :=
  ∀ (pins : List (Addr × Obj)) (s : Shared) (σ : L2.St) (H : Hp) (Nx : Hp → Prop) (c : Code) (Post : PySem.Fin → Shared → Prop) (E : Value → Shared → Prop), L2.Inv Y pins σ H s → EM σ H Nx → (∀ s' H', L2.Inv Y pins (wipe σ vs) H' s' → Nx H' → Post (Fin.again c) s') →
    wpAny (model Y.prog Y.w) Y.A (em fun _ => again c) Post E s
theorem wipe_weak {Y : Cx} {pins : List (Addr × Obj)} {σ : L2.St} {H : Hp} {s : Shared} {vs vs1 : List Nat} (h : L2.Inv Y pins (wipe σ vs1) H s) (sub : ∀ i ∈ vs1, i ∈ vs) : L2.Inv Y pins (wipe σ vs) H s :=
  h.weak (by rw [wipe_length, wipe_length]) fun i v z => by
    obtain ⟨a, b⟩ := wipe_some z
    rw [wipe_out fun m => b (sub i m)]
    exact a
theorem runs_app {Y : Cx} (xe0 : Y.xe = fun _ _ => False) {elt : Expr} {te : TE} {D : Addr} (vs : List Nat) (pe : PE Y elt te) : Runs Y vs (tEm te D) (emL elt (.ref D) Y.env) := by
  intro pins s σ H Nx c Post E I h k
  unfold emL emL0
  have r := pe.run pins s σ H _ I h
  rw [xe0] at r
  refine wpAny_bind (wpAny_bind (wpAny_mono r (fun v s1 h1 => ?_) fun _ _ z => z.elim))
  obtain ⟨y, H1, I1, ry, acc, hD, few, nx⟩ := h1
  refine wpAny_bind (app_ok I1 hD few ry fun s2 I2 => ?_)
  refine wpAny_pure (wpAny_pure (k s2 _ (I2.weak (wipe_length ..) fun _ _ z => (wipe_some z).1) nx))
theorem runs_in {Y : Cx} (hc : Y.calm = true) (xe0 : Y.xe = fun _ _ => False) {e : Expr} {d : Nat} {acc : Value} {tg i1 : Expr} {ifs : List Expr} {wi : TI} {g : TG} {tt : TT} {vs vs1 : List Nat} {EM : EMT} {p : Pos} {em : (Unit → Sem PySem.Fin) → Sem PySem.Fin} {gc : Comprehension}
    (sub : ∀ i ∈ vs1, i ∈ vs) (pi : PI Y tg i1 wi) (pg : PG Y tg g) (pt : PTs Y ifs tt) (hem : Runs Y vs1 EM em) (hs : ∀ x, foldedSetIterable i1 Y.env x = pure x)
    (hq : ∀ it, (Code.compLoop e d it acc Y.env).quiet = true) (hun : ∀ it, Y.A.under (Code.compLoop e d it acc Y.env) = Y.A) (hden : ∀ it, (model Y.prog Y.w).den (Code.compLoop e d it acc Y.env) = Sem.onRaise (compTurn e d it acc Y.env) fun x => do
      noteFrame x Y.env
      theTreesLotGoes x)
    (hunS : ∀ it, Y.A.under (Code.compStart e d it acc Y.env) = Y.A) (hdenS : ∀ it, (model Y.prog Y.w).den (Code.compStart e d it acc Y.env) = Sem.onRaise (compStart e d it acc Y.env) fun x => do
      noteFrame x Y.env
      standAt theWindowsPlace)
    (hg : (clausesOf e)[d]? = some gc) (ha : gc.is_async = 0)
    (ht : ∀ it, compTurn e d it acc Y.env = turnF p tg ifs em (Code.compLoop e d it acc Y.env) it Y.env) : Runs Y vs (tIn wi g tt vs1 EM) (emI e d i1 acc Y.env) := by
  intro pins s σ H Nx c Post E I h k
  unfold emI
  have r := pi.run pins s σ H _ I h
  rw [xe0] at r
  refine wpAny_bind (wpAny_mono r (fun v s1 h1 => ?_) fun _ _ z => z.elim)
  refine wpAny_bind (wpAny_standAt ?_)
  rw [hs]
  refine wpAny_bind (wpAny_pure (wpAny_bind (wpAny_holding (wpAny_mono h1 (fun itv s2 h2 => ?_) fun _ _ z => z.elim))))
  obtain ⟨it, fp, tn, J, H2, rfl, I2, T, t0, hfp, W, ⟨m0, w0⟩, turns⟩ := h2
  refine wpAny_bind (wpAny_runOwn ?_)
  have loop := lvl (R := fun r s' => match r with | Except.ok f => wpAny (model Y.prog Y.w) Y.A (again c) Post E s' | Except.error e => False) hc xe0 T pg pt (hq _) (hun _) (hden _) (ht _) (EM := EM) (vs := vs1) (σ0 := σ) (fun pins s σ H Nx Post E I h k => hem pins s σ H Nx _ Post E I h k) turns
    (fun s1 H1 I1 q1 => wpAny_pure (k s1 H1 (wipe_weak I1 sub) q1)) (I2.weak (wipe_length ..) fun _ _ z => (wipe_some z).1) t0 hfp w0
  show codeAny _ Y.A _ _ _
  refine codeAny_mono (startG hq (hunS _) (hdenS _) hg ha loop (T.self Y.A 0 s2 _ _ t0 loop)) fun r s3 h3 => ?_
  cases r with
  | ok f => exact h3
  | error e => exact h3.elim
def tLcG (wi : TI) (g : TG) (tt : TT) (EM : Addr → EMT) (vs : List Nat) : TE := fun σ H Q => wi σ H fun J H1 => ∀ D : Addr, H1 D = none → ∃ W, (∃ m, W 0 m (upd H1 D (.lst []))) ∧ tTurns J g tt vs (EM D) σ (fun H => Q (.ref D) H) W
theorem pe_lcG {X : Cx} {elt tg iter : Expr} {ifs : List Expr} {rest : List Comprehension} {scope : Scope} {own : List (Str × Nat)} {pos p : Pos} {wi : TI} {g : TG} {tt : TT} {EM : Addr → EMT} {em : Value → Env → (Unit → Sem PySem.Fin) → Sem PySem.Fin}
    (hc : X.calm = true) (hN : X.N.Nodup) (hi : PI X tg iter wi) (ok : BlkOk X.N X.env.scope scope own)
    (hg : ∀ (s : Shared) (H : Hp) (C : Addr) (cl : List (Str × Addr)) (fp : List Addr), PG (X.blk s H scope (compEnvC scope cl C X.env) fp) tg g)
    (ht : ∀ (s : Shared) (H : Hp) (C : Addr) (cl : List (Str × Addr)) (fp : List Addr), PTs (X.blk s H scope (compEnvC scope cl C X.env) fp) ifs tt)
    (hem : ∀ (s : Shared) (H : Hp) (C : Addr) (cl : List (Str × Addr)) (fp : List Addr) (D : Addr), Runs (X.blk s H scope (compEnvC scope cl C X.env) fp) (own.map (·.2)) (EM D) (em (.ref D) (compEnvC scope cl C X.env)))
    (turn : ∀ it acc env, compTurn (.ListComp elt (⟨tg, iter, ifs, 0⟩ :: rest) scope pos) 0 it acc env = turnF p tg ifs (em acc env) (Code.compLoop (.ListComp elt (⟨tg, iter, ifs, 0⟩ :: rest) scope pos) 0 it acc env) it env)
    (hs : ∀ x, foldedSetIterable iter X.env x = pure x) : PE X (.ListComp elt (⟨tg, iter, ifs, 0⟩ :: rest) scope pos) (tLcG wi g tt EM (own.map (·.2))) := by
  refine ⟨fun pins s σ H Q I h => ?_⟩
  rw [eval_ListComp]
  have hfree : ∀ y ∈ scope.names, y.2 = NameKind.free → ∃ c, List.lookup y.1 X.env.cells = some c := fun y hy e => (ok.free y hy e).elim (fun k => I.ok.has y.1 (.inl k)) fun k => I.ok.has y.1 (.inr k)
  refine wpAny_comprehension_free rfl hs (closure_ok hfree) ok.kind (fun y hy e => by rw [ok.uniq y hy, e]) ?_
  refine wpAny_mono (hi.run pins s σ H _ I h) (fun xv s1 hx => ?_) fun _ _ z => z
  refine wpAny_mono hx (fun itv s2 h2 => ?_) fun _ _ z => z
  obtain ⟨it, fp, tn, J, H2, rfl, I2, T, t2, f2, q⟩ := h2
  refine wpAny_newObj_type (newEnv_comp ?_)
  have hDn : H2 s2.heap.objs.size = none := I2.hok.fresh (Nat.le_refl _)
  obtain ⟨W, ⟨m0, w0⟩, turns⟩ := q _ hDn
  have I3 : L2.Inv X pins σ (upd H2 s2.heap.objs.size (.lst [])) { s2 with heap := s2.heap.push { cls := .type "list", data := .seq #[] } } :=
    I2.laid (fun b o e => Heap.get?_push_of_some _ e) (Nat.le_refl _) ⟨Nat.zero_le _, [], 0, .nil, Heap.get?_push_size _ rfl⟩
  generalize es3 : ({ s2 with heap := s2.heap.push { cls := .type "list", data := .seq #[] } } : Shared) = s3 at I3 ⊢
  have h3 : s3.heap = s2.heap.push { cls := .type "list", data := .seq #[] } := by rw [← es3]
  have f3 : ∀ b ∈ fp, FpOk X pins (upd H2 s2.heap.objs.size (.lst [])) b ∧ b < s3.heap.objs.size := fun b hb => by
    obtain ⟨o, ho, _⟩ := T.obj 0 _ t2 b hb
    have lt := Heap.lt_size ho
    refine ⟨⟨?_, (f2 b hb).2⟩, ?_⟩
    · rw [upd_ne (Nat.ne_of_lt lt)]
      exact (f2 b hb).1
    · rw [h3, Heap.size_push]
      exact Nat.lt_succ_of_lt lt
  have st3 : tn 0 s3.heap := T.keep 0 _ _ t2 fun b _ o e => by
    rw [h3]
    exact Heap.get?_push_of_some _ e
  have I4 := block_start I3 ok hN f3
  have st4 := T.keep 0 _ (pushCells (s3.heap.push { cls := .type "dict", data := .dict #[] }) scope.names) st3 fun b _ o e => pushCells_keeps scope.names _ b o (Heap.get?_push_of_some _ e)
  clear es3
  generalize s2.heap.objs.size = D at *
  show codeAny (model X.prog X.w) X.A (Code.compStart _ 0 (.ref it) (.ref D) (compEnvC scope (cellsFrom (s3.heap.objs.size + 1) scope.names (cloFrom X.env.cells scope.names [])) s3.heap.objs.size X.env)) _ _
  have loop := lvl (Y := X.blk s3 (upd H2 D (.lst [])) scope (compEnvC scope (cellsFrom (s3.heap.objs.size + 1) scope.names (cloFrom X.env.cells scope.names [])) s3.heap.objs.size X.env) fp) (R := compPost (model X.prog X.w) X.A X.xe none (EP X pins σ Q) (.ref D) s3.heap.objs.size) (e := .ListComp elt (⟨tg, iter, ifs, 0⟩ :: rest) scope pos) (d := 0) (acc := .ref D) hc rfl T (hg _ _ _ _ _) (ht _ _ _ _ _) rfl rfl rfl (turn _ _ _) (EM := EM D) (vs := List.map (fun x : Str × Nat => x.2) own) (σ0 := σ) (W := W) (Qe := fun H => Q (.ref D) H)
    (fun pins s σ H Nx Post E I h k => hem _ _ _ _ _ D pins s σ H Nx _ Post E I h k) turns (fun s6 H5 I6 q6 => ?_) I4 st4 (fun b hb => ⟨(f3 b hb).1.1, (I4.ok.exf b hb).1, I4.ok.exfs b hb, .inl hb, (I4.ok.exf b hb).2, fun p hp => by cases hp⟩) w0
  · exact codeAny_compStart_list loop (T.self X.A 0 _ _ _ st4 loop)
  · have I7 := Inv.call' I3 I6.os I6.base I6.hok I6.bare fun b hb => ⟨(f3 b hb).1.2.2.2.1, (f3 b hb).1.2.1, (f3 b hb).1.2.2.2.2.1, (f3 b hb).1.2.2.2.2.2⟩
    obtain ⟨m, hn, _⟩ := I6.loc
    obtain ⟨a0, a1, a2, a3, a4, a5⟩ := Inv.fpOk I3 (Nat.le_refl _) I6.free
    exact ⟨m, hn, fun h' sb => ⟨.ref D, H5, Inv.turned I7 (fun b o hb e => (sb.2 b hb).trans e) a0 a1 a3 a4 a5, rfl, q6⟩⟩
/-- [e for a in xs for b in ys for c in zs] -/
theorem pe_lc3 {X : Cx} {elt tg iter tg1 iter1 tg2 iter2 : Expr} {ifs ifs1 ifs2 : List Expr} {scope : Scope} {own : List (Str × Nat)} {vs1 vs2 : List Nat} {pos : Pos} {wi wi1 wi2 : TI} {g g1 g2 : TG} {tt tt1 tt2 : TT} {te : TE}
    (hc : X.calm = true) (hN : X.N.Nodup) (hi : PI X tg iter wi) (ok : BlkOk X.N X.env.scope scope own) (hv1 : ∀ i ∈ vs1, i ∈ List.map (fun x : Str × Nat => x.2) own) (hv2 : ∀ i ∈ vs2, i ∈ vs1)
    (hg : ∀ (s : Shared) (H : Hp) (C : Addr) (cl : List (Str × Addr)) (fp : List Addr), PG (X.blk s H scope (compEnvC scope cl C X.env) fp) tg g)
    (ht : ∀ (s : Shared) (H : Hp) (C : Addr) (cl : List (Str × Addr)) (fp : List Addr), PTs (X.blk s H scope (compEnvC scope cl C X.env) fp) ifs tt)
    (hi1 : ∀ (s : Shared) (H : Hp) (C : Addr) (cl : List (Str × Addr)) (fp : List Addr), PI (X.blk s H scope (compEnvC scope cl C X.env) fp) tg1 iter1 wi1)
    (hg1 : ∀ (s : Shared) (H : Hp) (C : Addr) (cl : List (Str × Addr)) (fp : List Addr), PG (X.blk s H scope (compEnvC scope cl C X.env) fp) tg1 g1)
    (ht1 : ∀ (s : Shared) (H : Hp) (C : Addr) (cl : List (Str × Addr)) (fp : List Addr), PTs (X.blk s H scope (compEnvC scope cl C X.env) fp) ifs1 tt1)
    (hi2 : ∀ (s : Shared) (H : Hp) (C : Addr) (cl : List (Str × Addr)) (fp : List Addr), PI (X.blk s H scope (compEnvC scope cl C X.env) fp) tg2 iter2 wi2)
    (hg2 : ∀ (s : Shared) (H : Hp) (C : Addr) (cl : List (Str × Addr)) (fp : List Addr), PG (X.blk s H scope (compEnvC scope cl C X.env) fp) tg2 g2)
    (ht2 : ∀ (s : Shared) (H : Hp) (C : Addr) (cl : List (Str × Addr)) (fp : List Addr), PTs (X.blk s H scope (compEnvC scope cl C X.env) fp) ifs2 tt2)
    (he : ∀ (s : Shared) (H : Hp) (C : Addr) (cl : List (Str × Addr)) (fp : List Addr), PE (X.blk s H scope (compEnvC scope cl C X.env) fp) elt te)
    (hs : ∀ x, foldedSetIterable iter X.env x = pure x := by intro _; rfl) (hs1 : ∀ env x, foldedSetIterable iter1 env x = pure x := by intro _ _; rfl) (hs2 : ∀ env x, foldedSetIterable iter2 env x = pure x := by intro _ _; rfl) :
    PE X (.ListComp elt [⟨tg, iter, ifs, 0⟩, ⟨tg1, iter1, ifs1, 0⟩, ⟨tg2, iter2, ifs2, 0⟩] scope pos) (tLcG wi g tt (fun D => tIn wi1 g1 tt1 vs1 (tIn wi2 g2 tt2 vs2 (tEm te D))) (own.map (·.2))) := by
  refine pe_lcG (em := fun acc env => emI (.ListComp elt [⟨tg, iter, ifs, 0⟩, ⟨tg1, iter1, ifs1, 0⟩, ⟨tg2, iter2, ifs2, 0⟩] scope pos) 1 iter1 acc env) hc hN hi ok hg ht (fun s H C cl fp D => ?_) (fun _ _ _ => rfl) hs
  refine runs_in (Y := X.blk s H scope (compEnvC scope cl C X.env) fp) (gc := ⟨tg1, iter1, ifs1, 0⟩) hc rfl hv1 (hi1 s H C cl fp) (hg1 s H C cl fp) (ht1 s H C cl fp) (em := fun k => emI (.ListComp elt [⟨tg, iter, ifs, 0⟩, ⟨tg1, iter1, ifs1, 0⟩, ⟨tg2, iter2, ifs2, 0⟩] scope pos) 2 iter2 (.ref D) (compEnvC scope cl C X.env) k) ?_ (hs1 _) (fun _ => rfl) (fun _ => rfl) (fun _ => rfl) (fun _ => rfl) (fun _ => rfl) rfl rfl (fun _ => rfl)
  refine runs_in (Y := X.blk s H scope (compEnvC scope cl C X.env) fp) (gc := ⟨tg2, iter2, ifs2, 0⟩) hc rfl hv2 (hi2 s H C cl fp) (hg2 s H C cl fp) (ht2 s H C cl fp) (em := fun k => emL elt (.ref D) (compEnvC scope cl C X.env) k) ?_ (hs2 _) (fun _ => rfl) (fun _ => rfl) (fun _ => rfl) (fun _ => rfl) (fun _ => rfl) rfl rfl (fun _ => rfl)
  exact runs_app rfl vs2 (he s H C cl fp)
/-- [e for a in xs for b in ys] -/
theorem pe_lcD {X : Cx} {elt tg iter tg1 iter1 : Expr} {ifs ifs1 : List Expr} {scope : Scope} {own : List (Str × Nat)} {vs1 : List Nat} {pos : Pos} {wi wi1 : TI} {g g1 : TG} {tt tt1 : TT} {te : TE}
    (hc : X.calm = true) (hN : X.N.Nodup) (hi : PI X tg iter wi) (ok : BlkOk X.N X.env.scope scope own) (hv1 : ∀ i ∈ vs1, i ∈ List.map (fun x : Str × Nat => x.2) own)
    (hg : ∀ (s : Shared) (H : Hp) (C : Addr) (cl : List (Str × Addr)) (fp : List Addr), PG (X.blk s H scope (compEnvC scope cl C X.env) fp) tg g)
    (ht : ∀ (s : Shared) (H : Hp) (C : Addr) (cl : List (Str × Addr)) (fp : List Addr), PTs (X.blk s H scope (compEnvC scope cl C X.env) fp) ifs tt)
    (hi1 : ∀ (s : Shared) (H : Hp) (C : Addr) (cl : List (Str × Addr)) (fp : List Addr), PI (X.blk s H scope (compEnvC scope cl C X.env) fp) tg1 iter1 wi1)
    (hg1 : ∀ (s : Shared) (H : Hp) (C : Addr) (cl : List (Str × Addr)) (fp : List Addr), PG (X.blk s H scope (compEnvC scope cl C X.env) fp) tg1 g1)
    (ht1 : ∀ (s : Shared) (H : Hp) (C : Addr) (cl : List (Str × Addr)) (fp : List Addr), PTs (X.blk s H scope (compEnvC scope cl C X.env) fp) ifs1 tt1)
    (he : ∀ (s : Shared) (H : Hp) (C : Addr) (cl : List (Str × Addr)) (fp : List Addr), PE (X.blk s H scope (compEnvC scope cl C X.env) fp) elt te)
    (hs : ∀ x, foldedSetIterable iter X.env x = pure x := by intro _; rfl) (hs1 : ∀ env x, foldedSetIterable iter1 env x = pure x := by intro _ _; rfl) :
    PE X (.ListComp elt [⟨tg, iter, ifs, 0⟩, ⟨tg1, iter1, ifs1, 0⟩] scope pos) (tLcG wi g tt (fun D => tIn wi1 g1 tt1 vs1 (tEm te D)) (own.map (·.2))) := by
  refine pe_lcG (em := fun acc env => emI (.ListComp elt [⟨tg, iter, ifs, 0⟩, ⟨tg1, iter1, ifs1, 0⟩] scope pos) 1 iter1 acc env) hc hN hi ok hg ht (fun s H C cl fp D => ?_) (fun _ _ _ => rfl) hs
  refine runs_in (Y := X.blk s H scope (compEnvC scope cl C X.env) fp) (gc := ⟨tg1, iter1, ifs1, 0⟩) hc rfl hv1 (hi1 s H C cl fp) (hg1 s H C cl fp) (ht1 s H C cl fp) (em := fun k => emL elt (.ref D) (compEnvC scope cl C X.env) k) ?_ (hs1 _) (fun _ => rfl) (fun _ => rfl) (fun _ => rfl) (fun _ => rfl) (fun _ => rfl) rfl rfl (fun _ => rfl)
  exact runs_app rfl vs1 (he s H C cl fp)
theorem pi_tupK {X : Cx} {tg l : Expr} {tl : TE} {K : PySem.W.Frag} (hk : X.K = K) (h : PE X l tl) : PI X tg l (iTup K tl) := by
  subst hk
  exact pi_tup h
/-! ### readings -/
theorem turns_range {lo : Int} {n : Nat} {g : TG} {tt : TT} {vs : List Nat} {EM : EMT} {σ : L2.St} {H0 : Hp} {Qe : Hp → Prop} (Z : Nat → Hp → Prop) (z0 : Z 0 H0)
    (step : ∀ (i : Nat) (H : Hp), i < n → Z i H → g (.int (lo + (i : Int))) (wipe σ vs) H fun σ2 H2 => wipe σ2 vs = wipe σ vs ∧ tt σ2 H2 fun b H3 => if b = true then EM σ2 H3 (Z (i + 1)) else Z (i + 1) H3)
    (done : ∀ H, Z n H → Qe H) : ∃ W, (∃ m, W 0 m H0) ∧ tTurns (Itr lo n) g tt vs EM σ Qe W := by
  refine ⟨fun i m H => i ≤ n ∧ m = n - i ∧ Z i H, ⟨n, Nat.zero_le _, rfl, z0⟩, ?_⟩
  rintro i m H ⟨le, rfl, z⟩
  by_cases e : i = n
  · exact .inl ⟨Nat.le_of_eq e.symm, done H (e ▸ z)⟩
  · have lt : i < n := by omega
    refine .inr ⟨lt, Z (i + 1), fun H' z' => ⟨n - (i + 1), by omega, by omega, rfl, z'⟩, ?_⟩
    rintro x H' ⟨rfl, rfl⟩
    exact step i H' lt z
theorem turns_list {K : PySem.W.Frag} {a : Addr} {xs : List V} {g : TG} {tt : TT} {vs : List Nat} {EM : EMT} {σ : L2.St} {H0 : Hp} {Qe : Hp → Prop} (Z : Nat → Hp → Prop) (z0 : Z 0 H0) (keep : ∀ (i : Nat) (H : Hp), i ≤ xs.length → Z i H → SqL K H a xs)
    (step : ∀ (i : Nat) (x : V) (H : Hp), xs[i]? = some x → Z i H → g x (wipe σ vs) H fun σ2 H2 => wipe σ2 vs = wipe σ vs ∧ tt σ2 H2 fun b H3 => if b = true then EM σ2 H3 (Z (i + 1)) else Z (i + 1) H3)
    (done : ∀ H, Z xs.length H → Qe H) : ∃ W, (∃ m, W 0 m H0) ∧ tTurns (Itl K a) g tt vs EM σ Qe W := by
  refine ⟨fun i m H => i ≤ xs.length ∧ m = xs.length - i ∧ Z i H, ⟨_, Nat.zero_le _, rfl, z0⟩, ?_⟩
  rintro i m H ⟨le, rfl, z⟩
  by_cases e : i = xs.length
  · exact .inl ⟨⟨xs, keep i H le z, Nat.le_of_eq e.symm⟩, done H (e ▸ z)⟩
  · have lt : i < xs.length := by omega
    refine .inr ⟨⟨xs, xs[i], keep i H le z, List.getElem?_eq_getElem lt⟩, Z (i + 1), fun H' z' => ⟨xs.length - (i + 1), by omega, by omega, rfl, z'⟩, ?_⟩
    rintro x H' ⟨rfl, hx⟩
    exact step i x H' (hx xs (keep i H' le z)) z
theorem turns_tup {K : PySem.W.Frag} {a : Addr} {xs : List V} {g : TG} {tt : TT} {vs : List Nat} {EM : EMT} {σ : L2.St} {H0 : Hp} {Qe : Hp → Prop} (Z : Nat → Hp → Prop) (z0 : Z 0 H0) (keep : ∀ (i : Nat) (H : Hp), i ≤ xs.length → Z i H → SqT K H a xs)
    (step : ∀ (i : Nat) (x : V) (H : Hp), xs[i]? = some x → Z i H → g x (wipe σ vs) H fun σ2 H2 => wipe σ2 vs = wipe σ vs ∧ tt σ2 H2 fun b H3 => if b = true then EM σ2 H3 (Z (i + 1)) else Z (i + 1) H3)
    (done : ∀ H, Z xs.length H → Qe H) : ∃ W, (∃ m, W 0 m H0) ∧ tTurns (Itt K a) g tt vs EM σ Qe W := by
  refine ⟨fun i m H => i ≤ xs.length ∧ m = xs.length - i ∧ Z i H, ⟨_, Nat.zero_le _, rfl, z0⟩, ?_⟩
  rintro i m H ⟨le, rfl, z⟩
  by_cases e : i = xs.length
  · exact .inl ⟨⟨xs, keep i H le z, Nat.le_of_eq e.symm⟩, done H (e ▸ z)⟩
  · have lt : i < xs.length := by omega
    refine .inr ⟨⟨xs, xs[i], keep i H le z, List.getElem?_eq_getElem lt⟩, Z (i + 1), fun H' z' => ⟨xs.length - (i + 1), by omega, by omega, rfl, z'⟩, ?_⟩
    rintro x H' ⟨rfl, hx⟩
    exact step i x H' (hx xs (keep i H' le z)) z
end Vx
namespace Vx
open PySem PySem.Spec PyProof.Rows L2
/-! ### the values of a dict whose keys are tuples -/
def ItvT (d : Addr) (o : Obj) (kvs : List (List L2.Key × V)) : It where
  go i H := H d = some (.frz o (.dT kvs)) ∧ i < kvs.length
  yld i H x H' := H' = H ∧ ∃ k, kvs[i]? = some (k, x)
  stop i H := H d = some (.frz o (.dT kvs)) ∧ kvs.length ≤ i
section
variable {P : Program} {w : World} {K : PySem.W.Frag} {d : Addr} {o : Obj} {es : Array DictEntry} {ep : Nat} {tg : Expr}
theorem turn_valsT {kvs : List (List L2.Key × V)} (it : Addr) (hod : o.data = .dict es ep) : Turn P w K tg (ItvT d o kvs) [it] it (fun i h => h.IsValIter it d i kvs.length ep) where
  mem := List.mem_singleton.mpr rfl
  obj := fun i h st b hb => by
    obtain ⟨oi, e, _, dd⟩ := st
    rw [List.mem_singleton.mp hb]
    exact ⟨oi, e, fun v z => by rw [dd] at z; cases z⟩
  keep := fun i h h' st k => by
    obtain ⟨oi, e, r⟩ := st
    exact ⟨oi, k it (List.mem_singleton.mpr rfl) _ e, r⟩
  item := by
    intro X hP hw hK hc i pins s σ H E I hf st hg
    subst hP hw hK
    obtain ⟨hd, hi⟩ := hg
    obtain ⟨f0, f1, f2, f3, f4, f5⟩ := hf it (List.mem_singleton.mpr rfl)
    obtain ⟨hs, hgd, hx, es', ep', hdt, hsz, ent⟩ := frzT2 I hd
    obtain ⟨rfl, rfl⟩ := dict_ep hod hdt
    obtain ⟨⟨k, v⟩, hkv⟩ : ∃ p, kvs[i]? = some p := ⟨kvs[i], List.getElem?_eq_getElem hi⟩
    obtain ⟨en, q, hen, hkey, hq, rv⟩ := ent i k v hkv
    have hi' : i < es'.size := by
      rw [hsz]
      exact hi
    have een : es'[i] = en := by
      rw [Array.getElem?_eq_getElem hi'] at hen
      exact Option.some.inj hen
    rw [← hsz] at st
    refine PySem.wpAny_pyNext_values_item_raw st ⟨o, hgd, hx, hdt⟩ hi' fun h' st' sb => ?_
    rw [een]
    have I1 : Inv X pins σ H { s with heap := h' } := I.turned (t' := s.toks) (fun b ob hb e => (sb.2 b hb).trans e) f0 f1 f3 f4 f5
    obtain ⟨oi, e, c, dd⟩ := id st'
    refine ⟨en.val, rfl, go_of (s := { s with heap := h' }) e c dd (by decide) ⟨v, H, I1, rv, ⟨rfl, k, hkv⟩, ?_, fun b hb => (hf b hb).1⟩⟩
    show h'.IsValIter it d (i + 1) kvs.length _
    rw [← hsz]
    exact st'
  done := by
    intro X hP hw hK hc i pins s σ H E I hf st hg
    subst hP hw hK
    obtain ⟨hd, hi⟩ := hg
    obtain ⟨f0, f1, f2, f3, f4, f5⟩ := hf it (List.mem_singleton.mpr rfl)
    obtain ⟨hs, hgd, hx, es', ep', hdt, hsz, ent⟩ := frzT2 I hd
    obtain ⟨rfl, rfl⟩ := dict_ep hod hdt
    rw [← hsz] at st
    exact PySem.wpAny_pyNext_values_end_raw (I.ok.hd hc) st ⟨o, hgd, hx, hdt⟩ (by omega) fun h' eb => ⟨rfl, I.turned (t' := s.toks) (fun b ob hb e => eb b ob hb e) f0 f1 f3 f4 f5⟩
  self := fun A i s Q E st h => wpAny_pyIter_valiter st h
end
def iValsT (td : TE) : TI := fun σ H R => td σ H fun x H1 => ∃ d o kvs, x = .ref d ∧ H1 d = some (.frz o (.dT kvs)) ∧ R (ItvT d o kvs) H1
theorem pi_valuesT {X : Cx} {tg e : Expr} {td : TE} {apos cpos : Pos} (he : PE X e td) (hbase : attributeBase e "values" X.env (eval e X.env) = eval e X.env := by rfl) (hline : (apos.endLine == cpos.line) = true := by rfl) :
    PI X tg (.Call (.Attribute e "values" apos) [] [] cpos) (iValsT td) := by
  refine ⟨fun pins s σ H R I h => ?_⟩
  refine wpAny_Call_method (T := "dict") (id := "dict.values") hbase rfl hline F.plainAttrs_dict F.slot_dict_values F.type_dict_values (thn (he.run pins s σ H _ I h) fun u s1 ⟨x, H1, I1, rx, d, o, kvs, ex, hd, q⟩ => ?_)
  subst ex
  obtain rfl : u = Value.ref d := rx
  obtain ⟨hs, hgd, hx, es, ep, hdt, hsz, ent⟩ := frzT2 I1 hd
  have raw : DT.Raw s1.heap d es ep := ⟨o, hgd, hx, hdt⟩
  have raw2 : s1.heap.DictRaw d es ep := ⟨o, hgd, hx, hdt⟩
  refine ⟨raw.typeIs, (fun a ea => by cases ea; exact ⟨o, hgd, hx.2.1⟩), ?_⟩
  have I2 : Inv X pins σ H1 { s1 with heap := s1.heap.push { cls := .type "dict_values", data := .fields #[.ref d] } } := I1.kept (t' := s1.toks) fun b ob q => Heap.get?_push_of_some _ q
  have fin : wpAny (model X.prog X.w) X.A (pyIter (.ref s1.heap.objs.size)) (PIE X pins σ tg R) X.xe { s1 with heap := s1.heap.push { cls := .type "dict_values", data := .fields #[.ref d] } } := by
    refine PySem.wpAny_pyIter_values_raw (d := d) (es := es) (ep := ep) ⟨_, Heap.get?_push_size _ rfl, rfl, rfl⟩ ⟨o, Heap.get?_push_of_some _ hgd, hx, hdt⟩ (pi_one (tk := s1.toks) I2 _ (turn_valsT _ hdt) ⟨_, Heap.get?_push_size _ rfl, rfl, ?_⟩ q)
    rw [hsz] <;> rfl
  show wpAny _ _ (callWith cpos (.builtin "dict.values") [.ref d] [] []) _ X.xe s1
  exact method_meetsIn F.slot_dict_values F.entry_dict_values rfl (PySem.evalArgs_none ⟨rfl, raw.typeIs, F.args_dict_values_1 _, _, PySem.meets_dict_values_raw d hs, ⟨⟨es, ep, raw2⟩, fin⟩⟩)
theorem walk_valuesT {d : Addr} {o : Obj} {kvs : List (List L2.Key × V)} : Walk (ItvT d o kvs) kvs.length (fun H => H d = some (.frz o (.dT kvs))) (fun i H x H' => H' = H ∧ ∃ k, kvs[i]? = some (k, x)) :=
  ⟨fun _ _ hi q => ⟨q, hi⟩, fun _ q => ⟨q, Nat.le_refl _⟩, fun _ _ _ _ _ _ y => y⟩
/-! ### a field, and a join, within a comprehension -/
theorem pe_fldK {X : Cx} {K : PySem.W.Frag} {e : Expr} {f : Str} {pos : Pos} {ta : TE} (hk : X.K = K) (he : PE X e ta) (hb : attributeBase e f X.env (eval e X.env) = eval e X.env) : PE X (.Attribute e f pos) (tFld K ta f) := by
  subst hk
  exact pe_fld he hb
def tJoinK (K : PySem.W.Frag) (to te : TE) : TE := tM1 (fun x xs H Q => ∃ a p, ∃ ys : List Str, x = .str a ∧ xs = [.ref p] ∧ (SqL K H p (ys.map V.str) ∨ SqT K H p (ys.map V.str)) ∧
      (ys.map (·.length)).sum + ys.length * a.length ≤ 16777216 ∧ Q (.str (Txt.join a ys)) H) to te
theorem pe_joinK {X : Cx} {K : PySem.W.Frag} {o e : Expr} {to te : TE} {apos pos : Pos} (hk : X.K = K) (ho : PE X o to) (he : PE X e te) (hs : starEach [e] X.env = [(false, eval e X.env)] := by rfl) (hbase : attributeBase o "join" X.env (eval o X.env) = eval o X.env := by rfl) (hline : (apos.endLine == pos.line) = true := by rfl) :
    PE X (.Call (.Attribute o "join" apos) [e] [] pos) (tJoinK K to te) := by
  subst hk
  exact pe_join ho he hs hbase hline
/-! ### a loop of a comprehension with two loops, over a range -/
theorem lc2_range {lo : Int} {n : Nat} {g : TG} {tt : TT} {vs : List Nat} {EM : L2.St → Hp → (Hp → Prop) → Prop} {σ : L2.St} {H0 : Hp} {Qe : Hp → Prop} (Z : Nat → Hp → Prop) (z0 : Z 0 H0)
    (step : ∀ (i : Nat) (H : Hp), i < n → Z i H → g (.int (lo + (i : Int))) (wipe σ vs) H fun σ2 H2 => wipe σ2 vs = wipe σ vs ∧ tt σ2 H2 fun b H3 => if b = true then EM σ2 H3 (Z (i + 1)) else Z (i + 1) H3)
    (done : ∀ H, Z n H → Qe H) : ∃ W : Nat → Nat → Hp → Prop, (∃ m, W 0 m H0) ∧ ∀ i m H, W i m H →
      ((Itr lo n).stop i H ∧ Qe H) ∨ ((Itr lo n).go i H ∧ ∃ Nx : Hp → Prop, (∀ H', Nx H' → ∃ m', m' < m ∧ W (i + 1) m' H') ∧ ∀ x H', (Itr lo n).yld i H x H' → g x (wipe σ vs) H' fun σ2 H2 => wipe σ2 vs = wipe σ vs ∧ tt σ2 H2 fun b H3 =>
        if b = true then EM σ2 H3 Nx else Nx H3) := turns_range Z z0 step done
end Vx
namespace PySem
open Sem (wp)
section
variable {prog : Program} {w : World} {K : Type} [DecidableEq K] {knd : HeapKind prog w K} {A : Around} {E : Value → Shared → Prop} {s : Shared}
theorem wpAny_truthy_dictH {d : Addr} {xs : List (K × Addr × Value)} {Q : Bool → Shared → Prop} (hd : (d == sysModules) = false) (hm : s.heap.DictOfH knd d xs) (hfit : (xs.length : Int) < 2 ^ 63)
    (h : Q (!xs.isEmpty) { s with toks := s.toks + 1 + 1 }) : wpAny (model prog w) A (truthy (.ref d)) Q E s := by
  have hne : ((xs.length : Int) != 0) = !xs.isEmpty := by cases xs <;> simp <;> omega
  have key : wpAny (model prog w) A (runValue (.builtin "len" ⟨[.ref d], []⟩)) (fun r s' => r = .int xs.length (s.toks + 1) ∧ Q (!xs.isEmpty) s') E s := by
    refine wpAny_runValue (codeAny_builtin entry_len ?_)
    rw [Around.under_plainId plain_len _]
    exact wpAny_mono (wpAny_len_body_dictH (Q := fun r s' => r = .int xs.length (s.toks + 1) ∧ Q (!xs.isEmpty) s') hd hm hfit ⟨rfl, h⟩)
      (fun fin s' h' => by obtain ⟨r, rfl, hq⟩ := h'; exact hq) fun _ _ e => e
  unfold truthy
  first
    | refine wpAny_bind (wpAny_callSpecial?_none (name := Str.ofString "__bool__") hm.typeIs noBool_dict ?_)
    | refine wpAny_bind (wpAny_pure (wpAny_bind (wpAny_callSpecial?_none (name := Str.ofString "__bool__") hm.typeIs noBool_dict ?_)))
  first
    | refine wpAny_bind (wpAny_specialOf (name := Str.ofString "__len__") hm.typeIs F.slot_dict_len.lookup ?_)
    | refine wpAny_bind (wpAny_pure (wpAny_bind (wpAny_specialOf (name := Str.ofString "__len__") hm.typeIs F.slot_dict_len.lookup ?_)))
  first
    | exact wpAny_bind (wpAny_mono key (fun r s' h' => by obtain ⟨rfl, hq⟩ := h'; exact wpAny_pure (hne ▸ hq)) fun _ _ e => e)
    | exact wpAny_bind (wpAny_pure (wpAny_bind (wpAny_mono key (fun r s' h' => by obtain ⟨rfl, hq⟩ := h'; exact wpAny_pure (hne ▸ hq)) fun _ _ e => e)))
end
end PySem
namespace Vx
open PySem PySem.Spec PyProof.Rows L2
theorem gName_go {i : Nat} {v : V} {σ : L2.St} {H : Hp} {Q : L2.St → Hp → Prop} (h : Q (σ.set i (some v)) H) : gName i v σ H Q := h
/-! ### min, max with a default, of ints -/
theorem foldl_min_mem : ∀ (ns : List Int) (n : Int), ns.foldl min n ∈ n :: ns ∧ ∀ y ∈ n :: ns, ns.foldl min n ≤ y
  | [], n => ⟨List.mem_cons_self, fun y m => by rw [List.mem_singleton.mp m]; exact Int.le_refl n⟩
  | k :: ns, n => by
    obtain ⟨h1, h2⟩ := foldl_min_mem ns (min n k)
    show ns.foldl min (min n k) ∈ _ ∧ ∀ y ∈ _, ns.foldl min (min n k) ≤ y
    have h0 := h2 _ List.mem_cons_self
    refine ⟨?_, fun y m => ?_⟩
    · rcases List.mem_cons.mp h1 with e | m
      · rw [e]
        rcases Int.le_total n k with c | c
        · rw [Int.min_eq_left c]; exact List.mem_cons_self
        · rw [Int.min_eq_right c]; exact List.mem_cons_of_mem _ List.mem_cons_self
      · exact List.mem_cons_of_mem _ (List.mem_cons_of_mem _ m)
    · rcases List.mem_cons.mp m with e | m
      · rw [e]; exact Int.le_trans h0 (Int.min_le_left _ _)
      · rcases List.mem_cons.mp m with e | m
        · rw [e]; exact Int.le_trans h0 (Int.min_le_right _ _)
        · exact h2 y (List.mem_cons_of_mem _ m)
theorem foldl_max_mem : ∀ (ns : List Int) (n : Int), ns.foldl max n ∈ n :: ns ∧ ∀ y ∈ n :: ns, y ≤ ns.foldl max n
  | [], n => ⟨List.mem_cons_self, fun y m => by rw [List.mem_singleton.mp m]; exact Int.le_refl n⟩
  | k :: ns, n => by
    obtain ⟨h1, h2⟩ := foldl_max_mem ns (max n k)
    show ns.foldl max (max n k) ∈ _ ∧ ∀ y ∈ _, y ≤ ns.foldl max (max n k)
    have h0 := h2 _ List.mem_cons_self
    refine ⟨?_, fun y m => ?_⟩
    · rcases List.mem_cons.mp h1 with e | m
      · rw [e]
        rcases Int.le_total n k with c | c
        · rw [Int.max_eq_right c]; exact List.mem_cons_of_mem _ List.mem_cons_self
        · rw [Int.max_eq_left c]; exact List.mem_cons_self
      · exact List.mem_cons_of_mem _ (List.mem_cons_of_mem _ m)
    · rcases List.mem_cons.mp m with e | m
      · rw [e]; exact Int.le_trans (Int.le_max_left _ _) h0
      · rcases List.mem_cons.mp m with e | m
        · rw [e]; exact Int.le_trans (Int.le_max_right _ _) h0
        · exact h2 y (List.mem_cons_of_mem _ m)
theorem alike_ints (ns : List Int) : W.AlikeAll (ns.map PyData.int) := ⟨fun a ma b mb => by
    obtain ⟨x, _, rfl⟩ := List.mem_map.mp ma
    obtain ⟨y, _, rfl⟩ := List.mem_map.mp mb
    simp [W.alike], fun a ma => by
    obtain ⟨x, _, rfl⟩ := List.mem_map.mp ma
    intro z
    cases z⟩
section
variable {X : Cx}
def rDflt (K : PySem.W.Frag) (le : Int → Int → Prop) : List V → List V → Hp → VK → Prop := fun vs zs H Q => ∃ (a : Addr) (ns : List Int) (d : V), vs = [V.ref a] ∧ zs = [d] ∧ SqL K H a (ns.map V.int) ∧ (ns = [] → Q d H) ∧ ∀ m, m ∈ ns → (∀ y ∈ ns, le m y) → Q (.int m) H
theorem cr_minD (hc : X.calm = true) (hu : X.A.units + 2 < cLine) : CallRK X (.builtin "min") [Str.ofString "default"] (rDflt X.K (fun m y => m ≤ y)) := by
  intro pins s σ H vs zs us ws Q I r rz h
  obtain ⟨a, ns, d, rfl, rfl, hs, q0, q⟩ := h
  obtain rfl := Vals.ref1 r
  obtain ⟨w1, rfl, e1⟩ := vals1 rz
  obtain ⟨its, rv, pl, hz⟩ := I.list hs
  obtain ⟨as, hr⟩ := Dp.readsAll I _ _ its (dpAll_ints ns) rv
  refine W.min_list_default (I.ok.hd hc) pl.isList hr (alike_ints ns) (by rw [depAll_ints]; omega) (fun z h' tk k => ?_) fun y ys i v h' tk bs e hv rd k => ?_
  · exact ⟨d, H, I.kept k, e1, q0 (List.map_eq_nil_iff.mp z)⟩
  · cases ns with
    | nil => cases e
    | cons n ns =>
      injection e with e1 e2
      subst e1 e2
      rw [W.minD_ints] at rd
      obtain ⟨h1, h2⟩ := foldl_min_mem ns n
      cases rd
      exact ⟨.int _, H, I.kept k, ⟨_, rfl⟩, q _ h1 h2⟩
theorem cr_maxD (hc : X.calm = true) (hu : X.A.units + 2 < cLine) : CallRK X (.builtin "max") [Str.ofString "default"] (rDflt X.K (fun m y => y ≤ m)) := by
  intro pins s σ H vs zs us ws Q I r rz h
  obtain ⟨a, ns, d, rfl, rfl, hs, q0, q⟩ := h
  obtain rfl := Vals.ref1 r
  obtain ⟨w1, rfl, e1⟩ := vals1 rz
  obtain ⟨its, rv, pl, hz⟩ := I.list hs
  obtain ⟨as, hr⟩ := Dp.readsAll I _ _ its (dpAll_ints ns) rv
  refine W.max_list_default (I.ok.hd hc) pl.isList hr (alike_ints ns) (by rw [depAll_ints]; omega) (fun z h' tk k => ?_) fun y ys i v h' tk bs e hv rd k => ?_
  · exact ⟨d, H, I.kept k, e1, q0 (List.map_eq_nil_iff.mp z)⟩
  · cases ns with
    | nil => cases e
    | cons n ns =>
      injection e with e1 e2
      subst e1 e2
      rw [W.maxD_ints] at rd
      obtain ⟨h1, h2⟩ := foldl_max_mem ns n
      cases rd
      exact ⟨.int _, H, I.kept k, ⟨_, rfl⟩, q _ h1 h2⟩
/-- if d: of a dict with tuple keys -/
theorem pt_truT {a : Expr} {ta : TE} (ha : PE X a ta) (he : ∀ whole, isTrue a X.env whole = (do let v ← whole; standAt a.pos; holding [v] (truthy v))) :
    PT X a (fun σ H Q => ta σ H fun x H' => ∃ (p : Addr) (kvs : List (List L2.Key × V)), x = .ref p ∧ H' p = some (.dT kvs) ∧ Q (!kvs.isEmpty) H') := by
  refine ⟨fun pins s σ H Q I h => ?_⟩
  refine isTrue_plain (thn (ha.run pins s σ H _ I h) fun v s1 ⟨x, H1, I1, r1, q1⟩ => ?_) (he _)
  obtain ⟨p, kvs, rfl, hp, q⟩ := q1
  obtain rfl : v = .ref p := r1
  obtain ⟨z, hd, ys, rel, dd⟩ := dt_of I1.hok hp
  have hl : kvs.length = ys.length := Paired.length rel
  have hi : (!ys.isEmpty) = !kvs.isEmpty := by
    cases ys <;> cases kvs <;> first | rfl | (simp at hl)
  refine PySem.wpAny_truthy_dictH hd dd (by rw [← hl]; rw [sizeLine_eq] at z; omega) ?_
  rw [hi]
  exact ⟨H1, I1.tok _, q⟩
end
/-- the keys of such a dict, a number of each -/
theorem lc_keysN {d : Addr} {od : Obj} {kvs : List (List L2.Key × V)} {ps : List Pr} {vs : List Nat} {σ : L2.St} {H1 : Hp} {D : Addr} {Qd : Hp → Prop} {g : TG} {tt : TT} {te : TE} (f : Pr → Int) (hK : KeysP kvs ps) (hD : H1 d = some (.frz od (.dT kvs))) (nD : H1 D = none) (few : ps.length < sizeLine)
    (hs : ∀ (t : Addr) (x : Pr) (H' : Hp) (Po : V → Hp → Prop) (Pn : Hp → Prop), x ∈ ps → H' t = some (.tup [.int x.1, .int x.2]) → Po (.int (f x)) H' →
      g (.ref t) (wipe σ vs) H' fun σ2 H2 => wipe σ2 vs = wipe σ vs ∧ tt σ2 H2 fun b H3 => if b = true then te σ2 H3 Po else Pn H3)
    (hd : ∀ H', Same H1 H' → H' D = some (.lst ((ps.map f).map V.int)) → Qd H') :
    ∃ W : Nat → Nat → Hp → Prop, (∃ m, W 0 m (upd H1 D (.lst []))) ∧ ∀ i m H, W i m H →
      ((Itkt d od kvs).stop i H ∧ Qd H) ∨ ((Itkt d od kvs).go i H ∧ ∃ Nx : Hp → Prop, (∀ H', Nx H' → ∃ m', m' < m ∧ W (i + 1) m' H') ∧ ∀ x H', (Itkt d od kvs).yld i H x H' → g x (wipe σ vs) H' fun σ2 H2 => wipe σ2 vs = wipe σ vs ∧ tt σ2 H2 fun b H3 =>
        if b = true then te σ2 H3 fun y H4 => ∃ acc, H4 D = some (.lst acc) ∧ acc.length < sizeLine ∧ Nx (upd H4 D (.lst (acc ++ [y]))) else Nx H3) := by
  have len := hK.len
  refine lc_it walk_keysT (fun i H' => Same H1 H' ∧ H' D = some (.lst (((ps.take i).map f).map V.int)))
    ⟨newS nD, upd_same⟩ (fun i H' _ p => p.1 _ _ hD) ?_ ?_
  · rintro i x H' H2 hi ⟨sm, h1⟩ ⟨rfl, k, v, q, e, rfl, hq⟩
    obtain ⟨y, hy, ek⟩ := hK.at e
    rw [ek] at hq
    refine hs q y _ _ _ (List.mem_of_getElem? hy) hq ⟨_, h1, ?_, mutS sm nD, ?_⟩
    · rw [List.length_map, List.length_map, List.length_take]
      omega
    · rw [upd_same, take_next hy, List.map_append, List.map_append]
      rfl
  · rintro H' ⟨sm, h1⟩
    rw [List.take_of_length_le (by omega)] at h1
    exact hd H' sm h1
end Vx
namespace Vx
open PySem PySem.Spec PyProof.Rows L2
/-! ### dict comprehensions with two loops -/
def emD0 (kx vx : Expr) (acc : Value) (env : Env) : Sem Unit := do
  let kv ← eval kx env
  let vv ← holding [kv] (eval vx env)
  match acc with
  | .ref d => do
    standAt { kx.pos with endLine := vx.pos.endLine, endCol := vx.pos.endCol }
    holding [kv, vv] (dictSet d kv vv)
  | _ => unsupported "internal:dictcomp"
def emD (kx vx : Expr) (acc : Value) (env : Env) (k : Unit → Sem PySem.Fin) : Sem PySem.Fin := emD0 kx vx acc env >>= k
def tEmD (tk tv : TE) (D : Addr) : EMT := fun σ H Nx => tk σ H fun y H4 => tv σ H4 fun z H5 => ∃ (kvs : List (List L2.Key × V)) (k : List L2.Key) (b : Addr), y = .ref b ∧ H5 b = some (.tup (k.map kV)) ∧ H5 D = some (.dT kvs) ∧ kvs.length < sizeLine ∧ Nx (upd H5 D (.dT (putK kvs k z)))
theorem runs_put {Y : Cx} (hu : Y.A.units < cLine) (xe0 : Y.xe = fun _ _ => False) {kx vx : Expr} {tk tv : TE} {D : Addr} (vs : List Nat) (pk : PE Y kx tk) (pv : PE Y vx tv) : Runs Y vs (tEmD tk tv D) (emD kx vx (.ref D) Y.env) := by
  intro pins s σ H Nx c Post E I h k
  unfold emD emD0
  have r := pk.run pins s σ H _ I h
  rw [xe0] at r
  refine wpAny_bind (wpAny_bind (wpAny_mono r (fun v s1 h1 => ?_) fun _ _ z => z.elim))
  obtain ⟨y, H1, I1, ry, h1⟩ := h1
  have r2 := pv.run pins s1 σ H1 _ I1 h1
  rw [xe0] at r2
  refine wpAny_bind (wpAny_holding (wpAny_mono r2 (fun v2 s2 h2 => ?_) fun _ _ z => z.elim))
  obtain ⟨z, H2, I2, rz, kvs, kk, b, rfl, hb, hD, few, nx⟩ := h2
  cases ry
  refine wpAny_bind (wpAny_standAt (wpAny_holding ?_))
  exact set_compT hu I2 hD few hb rz fun s3 I3 => wpAny_pure (k s3 _ (I3.weak (wipe_length ..) fun _ _ z => (wipe_some z).1) nx)
def tDcG (wi : TI) (g : TG) (tt : TT) (EM : Addr → EMT) (vs : List Nat) : TE := fun σ H Q => wi σ H fun J H1 => ∀ D : Addr, H1 D = none → ∃ W, (∃ m, W 0 m (upd H1 D (.dT []))) ∧ tTurns J g tt vs (EM D) σ (fun H => Q (.ref D) H) W
theorem pe_dcG {X : Cx} {kx vx tg iter : Expr} {ifs : List Expr} {rest : List Comprehension} {scope : Scope} {own : List (Str × Nat)} {pos p : Pos} {wi : TI} {g : TG} {tt : TT} {EM : Addr → EMT} {em : Value → Env → (Unit → Sem PySem.Fin) → Sem PySem.Fin}
    (hc : X.calm = true) (hN : X.N.Nodup) (hi : PI X tg iter wi) (ok : BlkOk X.N X.env.scope scope own)
    (hg : ∀ (s : Shared) (H : Hp) (C : Addr) (cl : List (Str × Addr)) (fp : List Addr), PG (X.blk s H scope (compEnvC scope cl C X.env) fp) tg g)
    (ht : ∀ (s : Shared) (H : Hp) (C : Addr) (cl : List (Str × Addr)) (fp : List Addr), PTs (X.blk s H scope (compEnvC scope cl C X.env) fp) ifs tt)
    (hem : ∀ (s : Shared) (H : Hp) (C : Addr) (cl : List (Str × Addr)) (fp : List Addr) (D : Addr), Runs (X.blk s H scope (compEnvC scope cl C X.env) fp) (own.map (·.2)) (EM D) (em (.ref D) (compEnvC scope cl C X.env)))
    (turn : ∀ it acc env, compTurn (.DictComp kx vx (⟨tg, iter, ifs, 0⟩ :: rest) scope pos) 0 it acc env = turnF p tg ifs (em acc env) (Code.compLoop (.DictComp kx vx (⟨tg, iter, ifs, 0⟩ :: rest) scope pos) 0 it acc env) it env)
    (hs : ∀ x, foldedSetIterable iter X.env x = pure x) : PE X (.DictComp kx vx (⟨tg, iter, ifs, 0⟩ :: rest) scope pos) (tDcG wi g tt EM (own.map (·.2))) := by
  refine ⟨fun pins s σ H Q I h => ?_⟩
  rw [arm_eval_DictComp]
  have hfree : ∀ y ∈ scope.names, y.2 = NameKind.free → ∃ c, List.lookup y.1 X.env.cells = some c := fun y hy e => (ok.free y hy e).elim (fun k => I.ok.has y.1 (.inl k)) fun k => I.ok.has y.1 (.inr k)
  refine wpAny_comprehension_free (use := none) rfl hs (closure_ok hfree) ok.kind (fun y hy e => by rw [ok.uniq y hy, e]) ?_
  refine wpAny_mono (hi.run pins s σ H _ I h) (fun xv s1 hx => ?_) fun _ _ z => z
  refine wpAny_mono hx (fun itv s2 h2 => ?_) fun _ _ z => z
  obtain ⟨it, fp, tn, J, H2, rfl, I2, T, t2, f2, q⟩ := h2
  refine wpAny_newObj_type (newEnv_comp ?_)
  have hDn : H2 s2.heap.objs.size = none := I2.hok.fresh (Nat.le_refl _)
  obtain ⟨W, ⟨m0, w0⟩, turns⟩ := q _ hDn
  have I3 : L2.Inv X pins σ (upd H2 s2.heap.objs.size (.dT [])) { s2 with heap := s2.heap.push { cls := .type "dict", data := .dict #[] } } :=
    I2.laid (t' := s2.toks) (fun b o e => Heap.get?_push_of_some _ e) (Nat.le_refl _) (dt_empty s2.heap I2.big)
  generalize es3 : ({ s2 with heap := s2.heap.push { cls := .type "dict", data := .dict #[] } } : Shared) = s3 at I3 ⊢
  have h3 : s3.heap = s2.heap.push { cls := .type "dict", data := .dict #[] } := by rw [← es3]
  have f3 : ∀ b ∈ fp, FpOk X pins (upd H2 s2.heap.objs.size (.dT [])) b ∧ b < s3.heap.objs.size := fun b hb => by
    obtain ⟨o, ho, _⟩ := T.obj 0 _ t2 b hb
    have lt := Heap.lt_size ho
    refine ⟨⟨?_, (f2 b hb).2⟩, ?_⟩
    · rw [upd_ne (Nat.ne_of_lt lt)]
      exact (f2 b hb).1
    · rw [h3, Heap.size_push]
      exact Nat.lt_succ_of_lt lt
  have st3 : tn 0 s3.heap := T.keep 0 _ _ t2 fun b _ o e => by
    rw [h3]
    exact Heap.get?_push_of_some _ e
  have I4 := block_start I3 ok hN f3
  have st4 := T.keep 0 _ (pushCells (s3.heap.push { cls := .type "dict", data := .dict #[] }) scope.names) st3 fun b _ o e => pushCells_keeps scope.names _ b o (Heap.get?_push_of_some _ e)
  clear es3
  generalize s2.heap.objs.size = D at *
  show codeAny (model X.prog X.w) X.A (Code.compStart _ 0 (.ref it) (.ref D) (compEnvC scope (cellsFrom (s3.heap.objs.size + 1) scope.names (cloFrom X.env.cells scope.names [])) s3.heap.objs.size X.env)) _ _
  have loop := lvl (Y := X.blk s3 (upd H2 D (.dT [])) scope (compEnvC scope (cellsFrom (s3.heap.objs.size + 1) scope.names (cloFrom X.env.cells scope.names [])) s3.heap.objs.size X.env) fp) (R := compPost (model X.prog X.w) X.A X.xe none (EP X pins σ Q) (.ref D) s3.heap.objs.size) (e := .DictComp kx vx (⟨tg, iter, ifs, 0⟩ :: rest) scope pos) (d := 0) (acc := .ref D) hc rfl T (hg _ _ _ _ _) (ht _ _ _ _ _) rfl rfl rfl (turn _ _ _) (EM := EM D) (vs := List.map (fun x : Str × Nat => x.2) own) (σ0 := σ) (W := W) (Qe := fun H => Q (.ref D) H)
    (fun pins s σ H Nx Post E I h k => hem _ _ _ _ _ D pins s σ H Nx _ Post E I h k) turns (fun s6 H5 I6 q6 => ?_) I4 st4 (fun b hb => ⟨(f3 b hb).1.1, (I4.ok.exf b hb).1, I4.ok.exfs b hb, .inl hb, (I4.ok.exf b hb).2, fun p hp => by cases hp⟩) w0
  · exact codeAny_compStart_dict loop (T.self X.A 0 _ _ _ st4 loop)
  · have I7 := Inv.call' I3 I6.os I6.base I6.hok I6.bare fun b hb => ⟨(f3 b hb).1.2.2.2.1, (f3 b hb).1.2.1, (f3 b hb).1.2.2.2.2.1, (f3 b hb).1.2.2.2.2.2⟩
    obtain ⟨m, hn, _⟩ := I6.loc
    obtain ⟨a0, a1, a2, a3, a4, a5⟩ := Inv.fpOk I3 (Nat.le_refl _) I6.free
    exact ⟨m, hn, fun h' sb => ⟨.ref D, H5, Inv.turned I7 (fun b o hb e => (sb.2 b hb).trans e) a0 a1 a3 a4 a5, rfl, q6⟩⟩
/-- {k: v for a in xs for b in ys} -/
theorem pe_dcD {X : Cx} {kx vx tg iter tg1 iter1 : Expr} {ifs ifs1 : List Expr} {scope : Scope} {own : List (Str × Nat)} {vs1 : List Nat} {pos : Pos} {wi wi1 : TI} {g g1 : TG} {tt tt1 : TT} {tk tv : TE}
    (hc : X.calm = true) (hu : X.A.units < cLine) (hN : X.N.Nodup) (hi : PI X tg iter wi) (ok : BlkOk X.N X.env.scope scope own) (hv1 : ∀ i ∈ vs1, i ∈ List.map (fun x : Str × Nat => x.2) own)
    (hg : ∀ (s : Shared) (H : Hp) (C : Addr) (cl : List (Str × Addr)) (fp : List Addr), PG (X.blk s H scope (compEnvC scope cl C X.env) fp) tg g)
    (ht : ∀ (s : Shared) (H : Hp) (C : Addr) (cl : List (Str × Addr)) (fp : List Addr), PTs (X.blk s H scope (compEnvC scope cl C X.env) fp) ifs tt)
    (hi1 : ∀ (s : Shared) (H : Hp) (C : Addr) (cl : List (Str × Addr)) (fp : List Addr), PI (X.blk s H scope (compEnvC scope cl C X.env) fp) tg1 iter1 wi1)
    (hg1 : ∀ (s : Shared) (H : Hp) (C : Addr) (cl : List (Str × Addr)) (fp : List Addr), PG (X.blk s H scope (compEnvC scope cl C X.env) fp) tg1 g1)
    (ht1 : ∀ (s : Shared) (H : Hp) (C : Addr) (cl : List (Str × Addr)) (fp : List Addr), PTs (X.blk s H scope (compEnvC scope cl C X.env) fp) ifs1 tt1)
    (hk : ∀ (s : Shared) (H : Hp) (C : Addr) (cl : List (Str × Addr)) (fp : List Addr), PE (X.blk s H scope (compEnvC scope cl C X.env) fp) kx tk)
    (hv : ∀ (s : Shared) (H : Hp) (C : Addr) (cl : List (Str × Addr)) (fp : List Addr), PE (X.blk s H scope (compEnvC scope cl C X.env) fp) vx tv)
    (hs : ∀ x, foldedSetIterable iter X.env x = pure x := by intro _; rfl) (hs1 : ∀ env x, foldedSetIterable iter1 env x = pure x := by intro _ _; rfl) :
    PE X (.DictComp kx vx [⟨tg, iter, ifs, 0⟩, ⟨tg1, iter1, ifs1, 0⟩] scope pos) (tDcG wi g tt (fun D => tIn wi1 g1 tt1 vs1 (tEmD tk tv D)) (own.map (·.2))) := by
  refine pe_dcG (em := fun acc env => emI (.DictComp kx vx [⟨tg, iter, ifs, 0⟩, ⟨tg1, iter1, ifs1, 0⟩] scope pos) 1 iter1 acc env) hc hN hi ok hg ht (fun s H C cl fp D => ?_) (fun _ _ _ => rfl) hs
  refine runs_in (Y := X.blk s H scope (compEnvC scope cl C X.env) fp) (gc := ⟨tg1, iter1, ifs1, 0⟩) hc rfl hv1 (hi1 s H C cl fp) (hg1 s H C cl fp) (ht1 s H C cl fp) (em := fun k => emD kx vx (.ref D) (compEnvC scope cl C X.env) k) ?_ (hs1 _) (fun _ => rfl) (fun _ => rfl) (fun _ => rfl) (fun _ => rfl) (fun _ => rfl) rfl rfl (fun _ => rfl)
  exact runs_put (Y := X.blk s H scope (compEnvC scope cl C X.env) fp) hu rfl vs1 (hk s H C cl fp) (hv s H C cl fp)
/-! ### sorted of any alike data -/
theorem each_zip {R : Value → V × PyData → Prop} : ∀ {xs : List V} {us : List Value} {ds : List PyData}, Vals xs us → xs.length = ds.length → (∀ x u d, (x, d) ∈ xs.zip ds → RelV x u → R u (x, d)) → W.EachIs R us (xs.zip ds)
  | [], _, [], .nil, _, _ => .nil
  | x :: xs, _, d :: ds, .cons r rs, h, g => .cons (g x _ d List.mem_cons_self r) (each_zip rs (by simpa using h) fun y u e m => g y u e (List.mem_cons_of_mem _ m))
theorem vals_each : ∀ {us : List Value} {bs : List (V × PyData)}, W.EachIs (fun u (b : V × PyData) => RelV b.1 u) us bs → Vals (bs.map (·.1)) us
  | [], [], .nil => .nil
  | _ :: _, _ :: _, .cons r rs => .cons r (vals_each rs)
def srtD (xs : List V) (ds : List PyData) : List (V × PyData) := (xs.zip ds).mergeSort (W.dataLe false fun b => b.2)
theorem dpAll_len {K : PySem.W.Frag} {H : Hp} : ∀ {xs : List V} {ds : List PyData}, DpAll K H xs ds → xs.length = ds.length
  | [], [], _ => rfl
  | x :: xs, [], h => by cases h
  | [], d :: ds, h => by cases h
  | x :: xs, d :: ds, h => by
    cases h with
    | cons a b => rw [List.length_cons, List.length_cons, dpAll_len b]
theorem dpAll_zip {K : PySem.W.Frag} {H : Hp} : ∀ {xs : List V} {ds : List PyData}, DpAll K H xs ds → ∀ x d, (x, d) ∈ xs.zip ds → Dp K H x d
  | [], _, _, x, d, m => by cases m
  | x :: xs, [], h, y, e, m => by cases m
  | x :: xs, d :: ds, h, y, e, m => by
    cases h with
    | cons a b =>
      rcases List.mem_cons.mp m with m | m
      · injection m with m1 m2
        rw [m1, m2]
        exact a
      · exact dpAll_zip b y e m
theorem dpAll_of {K : PySem.W.Frag} {H : Hp} : ∀ {bs : List (V × PyData)}, (∀ b ∈ bs, Dp K H b.1 b.2) → DpAll K H (bs.map (·.1)) (bs.map (·.2))
  | [], _ => .nil
  | b :: bs, h => .cons (h b List.mem_cons_self) (dpAll_of fun c m => h c (List.mem_cons_of_mem _ m))
theorem srtD_dp {K : PySem.W.Frag} {H : Hp} {xs : List V} {ds : List PyData} (h : DpAll K H xs ds) : DpAll K H ((srtD xs ds).map (·.1)) ((srtD xs ds).map (·.2)) :=
  dpAll_of fun b m => dpAll_zip h b.1 b.2 ((List.mergeSort_perm _ _).mem_iff.mp m)
theorem srtD_data {xs : List V} {ds : List PyData} (h : xs.length = ds.length) : (srtD xs ds).map (·.2) = ds.mergeSort (W.dataLe false id) := by
  unfold srtD
  have e := List.map_mergeSort (r := W.dataLe false fun b : V × PyData => b.2) (s := W.dataLe false id) (f := fun b : V × PyData => b.2) (l := xs.zip ds) (fun a _ b _ => rfl)
  have z : (xs.zip ds).map (fun b : V × PyData => b.2) = ds := by
    show (xs.zip ds).map Prod.snd = ds
    rw [List.map_snd_zip]
    omega
  rw [z] at e
  exact e
section
variable {X : Cx}
theorem cr_sortedD (hu : X.A.units + 64 < cLine) : CallR X (.builtin "sorted") (fun us H Q => ∃ (a : Addr) (xs : List V) (ds : List PyData), us = [.ref a] ∧ SqL X.K H a xs ∧ DpAll X.K H xs ds ∧ W.AllAlike ds ∧ W.Sortable ds ∧ (∀ d ∈ ds, d.depth ≤ 60) ∧
    ∀ p, H p = none → Q (.ref p) (upd H p (.lst ((srtD xs ds).map (·.1))))) := by
  intro pins s σ H vs us Q I r h
  obtain ⟨a, xs, ds, rfl, hs, dp, al, so, dep, q⟩ := h
  obtain ⟨its, rv, hl, hz⟩ := I.list hs
  rw [Vals.ref1 r]
  have len := dpAll_len dp
  have lz : (xs.zip ds).map (·.2) = ds := by
    rw [List.map_snd_zip]
    omega
  have lb : (xs.zip ds).length = xs.length := by rw [List.length_zip, len, Nat.min_self]
  refine W.sorted_data (R := fun u (b : V × PyData) => RelV b.1 u) (enc := fun b : V × PyData => b.2) (bs := xs.zip ds) hl.isList (each_zip rv len fun _ _ _ _ r => r) (each_zip rv len fun x u d m r => Dp.reads I d x u (dpAll_zip dp x d m) r) (by rw [lz]; exact al) (by rw [lz]; exact so) (by rw [lb]; exact hz) (fun b m => ?_) fun out ho eo => ?_
  · have := dep b.2 (by rw [← lz]; exact List.mem_map.mpr ⟨b, m, rfl⟩)
    omega
  · obtain ⟨ep, he'⟩ := PyProof.Rows.sortedAll_at s.heap its (List.toArray out)
    have vo := vals_each eo
    exact ⟨.ref _, upd H (s.heap.objs.size + 1) (.lst ((srtD xs ds).map (·.1))), I.laid (t' := s.toks) (fun _ _ => PyProof.Rows.sortedAll_old) (Nat.le_succ _) ⟨by
      have hl2 : (srtD xs ds).length = xs.length := by unfold srtD; rw [List.length_mergeSort, lb]
      rw [List.length_map, hl2]
      exact hz, out, ep, vo, he'⟩, rfl, q _ (I.hok.fresh (Nat.le_succ _))⟩
/-! ### math.comb -/
theorem cr_comb : CallR X (.builtin "math.comb") (fun vs H Q => ∃ a b : Nat, vs = [.int (a : Int), .int (b : Int)] ∧ a ≤ 1000 ∧ b ≤ a ∧ ∀ c : Nat, 0 < c → Q (.int (c : Int)) H) := by
  intro pins s σ H vs us Q I r h
  obtain ⟨a, b, rfl, ha, hb, q⟩ := h
  obtain ⟨t, u, rfl⟩ := Vals.int2 r
  refine PySem.W.mc_comb (by omega) (by omega) (by omega) (.inl (by omega)) fun m => ?_
  obtain ⟨m1, m2, _⟩ := m
  have m2 := m2 (by omega)
  obtain ⟨c, ec⟩ := Int.eq_ofNat_of_zero_le m1
  have c0 : 0 < c := by omega
  refine ⟨.int _, H, I.tok _, ⟨_, rfl⟩, ?_⟩
  rw [ec]
  exact q c c0
end
end Vx
namespace Vx
open PySem PySem.Spec PyProof.Rows L2
/-! ### enumerate(s), s a text -/
def IteS (x : Str) : It :=
  ⟨fun i _ => i < x.cps.size, fun i H v H' => ∃ T c, v = .ref T ∧ H T = none ∧ x.cps[i]? = some c ∧ H' = upd H T (.tup [.int (i : Nat), .str ⟨#[c]⟩]), fun i _ => x.cps.size = i⟩
theorem turn_enumS {P : Program} {w : World} {K : PySem.W.Frag} {elts : List Expr} {kk : Nat} {tpos : Pos} (x : Str) (t : Tok) (e it : Addr) :
    Turn P w K (.Tuple elts kk tpos) (IteS x) [e, it] e (fun i h => (∃ old, IsEnum h e it ((i : Nat) : Int) old) ∧ h.IsStrIter it (strIterType x) x t i ∧ e ≠ it) where
  mem := by simp
  obj := fun i h st b hb => by
    obtain ⟨⟨old, he⟩, ⟨o, ho, hc, hd⟩, _⟩ := st
    have e' : b = e ∨ b = it := by simpa using hb
    rcases e' with z | z
    · rw [z]; exact ⟨_, he, fun v q => nomatch q⟩
    · rw [z]; exact ⟨o, ho, fun v q => by rw [hd] at q; cases q⟩
  keep := fun i h h' st k => let ⟨⟨old, he⟩, ⟨o, ho, r⟩, hne⟩ := st; ⟨⟨old, k e (by simp) _ he⟩, ⟨o, k it (by simp) o ho, r⟩, hne⟩
  item := by
    intro X hP hw hK hc i pins s σ H E I hf st hg
    subst hP hw hK
    obtain ⟨⟨old, he⟩, hit, hne⟩ := st
    have hel : e < s.heap.objs.size := Heap.lt_size he
    have hil : it < s.heap.objs.size := by obtain ⟨_, q, _⟩ := hit; exact Heap.lt_size q
    have D := Draws.text (prog := X.prog) (w := X.w) (A := X.A.in1) (I.ok.hd hc) it x t
    refine wpAny_pyNext_enum_itemC D he hit hg hne (by simp; exact hne) fun x' h' tk hx' ho hit' hT hsz hk => ?_
    obtain ⟨c, u, hcx, rfl⟩ := hx'
    have ru : RelV (.str ⟨#[c]⟩) (Value.str ⟨#[c]⟩ u) := ⟨u, rfl⟩
    refine ⟨_, rfl, wpAny_letOwnedTupleGo_enum (s := { s with heap := h', toks := tk + 1 }) ho fun h'' he' sb => ?_⟩
    have hT2 := (sb.2 _ (Nat.ne_of_gt hel)).trans hT
    have new : ObjOk X.prog X.w (upd H s.heap.objs.size (.tup [.int (i : Nat), .str ⟨#[c]⟩])) h'' s.heap.objs.size (.tup [.int (i : Nat), .str ⟨#[c]⟩]) :=
      ⟨by show 2 ≤ sizeLine; decide, [.int i tk, .str ⟨#[c]⟩ u], .cons ⟨_, rfl⟩ (.cons ru .nil), ⟨_, hT2, rfl, _, rfl⟩⟩
    have I1 : Inv X pins σ (upd H s.heap.objs.size (.tup [.int (i : Nat), .str ⟨#[c]⟩])) { s with heap := h'', toks := tk + 1 } :=
      I.turnedNew (ch := [e, it]) (fun b ob hb q => (sb.2 b (fun z => hb (by simp [z]))).trans (hk b ob (fun z => hb (by simp [z])) (fun z => hb (by simp [z])) q)) hf (Nat.le_refl _) new
    refine ⟨.ref s.heap.objs.size, _, I1, rfl, ⟨_, c, rfl, I.hok.fresh (Nat.le_refl _), hcx, rfl⟩, ⟨⟨.str ⟨#[c]⟩ u, ?_⟩, ?_, hne⟩, fun b hb => ?_⟩
    · have e1 : ((i + 1 : Nat) : Int) = (i : Int) + 1 := by omega
      rw [e1]; exact he'
    · obtain ⟨o, ho2, r⟩ := hit'
      exact ⟨o, (sb.2 it (Ne.symm hne)).trans ho2, r⟩
    · have hb' : b < s.heap.objs.size := by
        have e' : b = e ∨ b = it := by simpa using hb
        rcases e' with z | z
        · rw [z]; exact hel
        · rw [z]; exact hil
      rw [upd_ne (Nat.ne_of_lt hb')]
      exact (hf b hb).1
  done := by
    intro X hP hw hK hc i pins s σ H E I hf st hg
    subst hP hw hK
    obtain ⟨⟨old, he⟩, hit, hne⟩ := st
    obtain ⟨f0, f1, f2, f3, f4, f5⟩ := hf it (by simp)
    have D := Draws.text (prog := X.prog) (w := X.w) (A := X.A.in1) (I.ok.hd hc) it x t
    subst hg
    refine wpAny_pyNext_enum_endD D he hit fun h' eb => ⟨rfl, I.turned (t' := s.toks) (fun b o hb q => eb b o hb q) f0 f1 f3 f4 f5⟩
  self := fun A i s Q E st h => let ⟨⟨_, he⟩, _⟩ := st; wpAny_pyIter_enum he h
def iEnumS (ta : TA) : TI := fun σ H R => ta σ H fun vs H1 => ∃ x, vs = [.str x] ∧ R (IteS x) H1
theorem pi_enumS {X : Cx} {e : Expr} {ta : TA} {p pos tpos : Pos} {elts : List Expr} {kk : Nat} (hg : Gl X "enumerate") (hm : X.mg "enumerate" = none) (ha : PA X [e] ta) (hs : starEach [e] X.env = [(false, eval e X.env)] := by rfl) :
    PI X (.Tuple elts kk tpos) (.Call (.Name "enumerate" p) [e] [] pos) (iEnumS ta) := by
  refine ⟨fun pins s σ H R I h => ?_⟩
  refine Call_ (ld_blt I hg hm boot_enumerate (PyProof.Rows.callWith_type1 (thn (ha.run pos pins s σ H _ I h) fun us s1 ⟨vs, H1, I1, r1, q1⟩ => ?_) hs rfl))
  obtain ⟨x, ex, q⟩ := q1
  subst ex
  cases r1 with
  | cons r rr =>
    cases rr
    obtain ⟨t, rfl⟩ := r
    refine call_enumerate1 (begins_text x t) trivial fun h' he hit hsz hk => wpAny_pyIter_enum he ?_
    have I2 : Inv X pins σ H1 { s1 with heap := h' } := I1.kept (t' := s1.toks) hk
    refine ⟨s1.heap.objs.size + 1, [s1.heap.objs.size + 1, s1.heap.objs.size], _, _, H1, rfl, I2, turn_enumS x t (s1.heap.objs.size + 1) s1.heap.objs.size, ⟨⟨.none, he⟩, ⟨_, hit, rfl, rfl⟩, Nat.succ_ne_self _⟩, fun b hb => ?_, q⟩
    have e' : b = s1.heap.objs.size + 1 ∨ b = s1.heap.objs.size := by simpa using hb
    have hle : s1.heap.objs.size ≤ b := by
      rcases e' with z | z
      · rw [z]; exact Nat.le_add_right _ _
      · rw [z]; exact Nat.le_refl _
    exact I1.fpOk hle (I1.hok.fresh hle)
theorem turns_enumS {x : Str} {g : TG} {tt : TT} {vs : List Nat} {EM : EMT} {σ : L2.St} {H0 : Hp} {Qe : Hp → Prop} (Z : Nat → Hp → Prop) (z0 : Z 0 H0)
    (step : ∀ (i : Nat) (c : Nat) (H : Hp) (T : Addr), x.cps[i]? = some c → Z i H → H T = none → g (.ref T) (wipe σ vs) (upd H T (.tup [.int (i : Nat), .str ⟨#[c]⟩])) fun σ2 H2 => wipe σ2 vs = wipe σ vs ∧ tt σ2 H2 fun b H3 => if b = true then EM σ2 H3 (Z (i + 1)) else Z (i + 1) H3)
    (done : ∀ H, Z x.cps.size H → Qe H) : ∃ W, (∃ m, W 0 m H0) ∧ tTurns (IteS x) g tt vs EM σ Qe W := by
  refine ⟨fun i m H => i ≤ x.cps.size ∧ m = x.cps.size - i ∧ Z i H, ⟨_, Nat.zero_le _, rfl, z0⟩, ?_⟩
  rintro i m H ⟨le, rfl, z⟩
  by_cases e : i = x.cps.size
  · exact .inl ⟨e.symm, done H (e ▸ z)⟩
  · have lt : i < x.cps.size := by omega
    refine .inr ⟨lt, Z (i + 1), fun H' z' => ⟨x.cps.size - (i + 1), by omega, by omega, rfl, z'⟩, ?_⟩
    rintro v H' ⟨T, c, rfl, hT, hc, rfl⟩
    exact step i c H T hc z hT
theorem turns_enum {K : PySem.W.Frag} {a : Addr} {xs : List V} {g : TG} {tt : TT} {vs : List Nat} {EM : EMT} {σ : L2.St} {H0 : Hp} {Qe : Hp → Prop} (Z : Nat → Hp → Prop) (z0 : Z 0 H0) (keep : ∀ (i : Nat) (H : Hp), i ≤ xs.length → Z i H → SqL K H a xs)
    (step : ∀ (i : Nat) (x : V) (H : Hp) (T : Addr), xs[i]? = some x → Z i H → H T = none → g (.ref T) (wipe σ vs) (upd H T (.tup [.int (i : Nat), x])) fun σ2 H2 => wipe σ2 vs = wipe σ vs ∧ tt σ2 H2 fun b H3 => if b = true then EM σ2 H3 (Z (i + 1)) else Z (i + 1) H3)
    (done : ∀ H, Z xs.length H → Qe H) : ∃ W, (∃ m, W 0 m H0) ∧ tTurns (Ite K a) g tt vs EM σ Qe W := by
  refine ⟨fun i m H => i ≤ xs.length ∧ m = xs.length - i ∧ Z i H, ⟨_, Nat.zero_le _, rfl, z0⟩, ?_⟩
  rintro i m H ⟨le, rfl, z⟩
  by_cases e : i = xs.length
  · subst e
    exact .inl ⟨walk_enum.stops H (keep _ H le z), done H z⟩
  · have lt : i < xs.length := by omega
    refine .inr ⟨walk_enum.goes i H lt (keep i H le z), Z (i + 1), fun H' z' => ⟨xs.length - (i + 1), by omega, by omega, rfl, z'⟩, ?_⟩
    intro v H' y
    obtain ⟨T, u, x, rfl, hT, rfl, hu, hx⟩ := walk_enum.yields i H v H' lt (keep i H le z) y
    obtain rfl := Option.some.inj hu
    exact step i x H T hx z hT
/-- a dict that an expression gives, kept as it is from then on -/
theorem pe_frz {X : Cx} {e : Expr} {t : TE} (h : PE X e t) : PE X e (fun σ H Q => t σ H fun x H1 => ∃ (d : Addr) (kvs : List (List L2.Key × V)), x = .ref d ∧ H1 d = some (.dT kvs) ∧ ∀ od, Q x (upd H1 d (.frz od (.dT kvs)))) := by
  refine ⟨fun pins s σ H Q I hw => ?_⟩
  refine thn (h.run pins s σ H _ I hw) fun v s1 ⟨x, H1, I1, r, d, kvs, ex, hd, q⟩ => ?_
  obtain ⟨od, I2⟩ := I1.lock hd trivial
  exact ⟨x, _, I2, r, q od⟩
/-! ### lists of True, False and None -/
def nv : Option Bool → V
  | none => .non
  | some b => .bl b
def nd : Option Bool → PyData
  | none => .none
  | some b => .bool b
theorem dpAll_nv {K : PySem.W.Frag} {H : Hp} : ∀ os : List (Option Bool), DpAll K H (os.map nv) (os.map nd)
  | [] => .nil
  | none :: os => .cons .non (dpAll_nv os)
  | some b :: os => .cons (.bl b) (dpAll_nv os)
theorem eqv_nd (a b : Option Bool) : PyData.eqv (nd a) (nd b) = decide (a = b) := by
  cases a <;> cases b <;> simp [nd, PyData.eqv]
  rename_i x y
  cases x <;> cases y <;> rfl
theorem count_nd (o : Option Bool) : ∀ os : List (Option Bool), (os.map nd).countP (fun y => PyData.eqv y (nd o)) = os.count o
  | [] => rfl
  | x :: os => by
    rw [List.map_cons, List.countP_cons, List.count_cons, count_nd o os, eqv_nd]
    by_cases e : x = o
    · simp [e]
    · simp [e]
theorem plainAll_nd : ∀ os : List (Option Bool), PyData.plainAll (os.map nd) = true
  | [] => by simp [PyData.plainAll]
  | x :: os => by
    rw [List.map_cons]
    cases x <;> simp [PyData.plainAll, PyData.plain, nd, plainAll_nd os]
theorem depAll_nd : ∀ os : List (Option Bool), PyData.depthAll (os.map nd) = 0
  | [] => by simp [PyData.depthAll]
  | x :: os => by
    rw [List.map_cons]
    cases x <;> simp [PyData.depthAll, PyData.depth, nd, depAll_nd os]
theorem mt_countO {X : Cx} (hu : X.A.units + 65 < cLine) : MtR X "list.count" (fun x xs H Q => ∃ (a : Addr) (o : Option Bool) (os : List (Option Bool)), x = .ref a ∧ xs = [nv o] ∧ SqL X.K H a (os.map nv) ∧ Q (.int (os.count o : Nat)) H) := by
  intro pins s σ H x xs v us Q I rx rxs h
  obtain ⟨a, o, os, rfl, rfl, hl, q⟩ := h
  cases rx
  obtain ⟨u, rfl, ru⟩ := rxs.one
  have dpo : Dp X.K H (nv o) (nd o) := by
    cases o with
    | none => exact .non
    | some b => exact .bl b
  obtain ⟨as, r1⟩ := Dp.reads I (nd o) (nv o) u dpo ru
  obtain ⟨its, rv, pl, hz⟩ := I.list hl
  obtain ⟨bs, hr⟩ := Dp.readsAll I _ _ its (dpAll_nv os) rv
  refine SeqAt.count_list_data pl.isList hr r1 (plainAll_nd os) (by cases o <;> simp [nd, PyData.plain]) (by rw [depAll_nd]; omega) ?_
  rw [count_nd]
  exact ⟨.int (os.count o : Nat), H, I.tok _, ⟨_, rfl⟩, q⟩
end Vx
namespace My
open PySem PySem.Spec PyProof.Rows L2 Vx
def topS (i : Nat) : Stmt := PySem.Challenge.pw_longlife_k05_pictures_and_their_faults.main.body.getD i (.Pass ⟨0, 0, 0, 0⟩)
abbrev s_InvalidPicture_init : Stmt := inClass (topS 4) 0
abbrev N_InvalidPicture_init : List Str := ["self", "row", "column"]
theorem sc_InvalidPicture_init : SupScope N_InvalidPicture_init ["self", "row", "column"] (defScope s_InvalidPicture_init) := ⟨rfl, rfl, rfl, by decide +kernel, rfl, by decide +kernel, by decide +kernel, by decide +kernel, rfl, rfl⟩
abbrev s_pattern : Stmt := topS 8
abbrev N_pattern : List Str := ["cells"]
theorem sc_pattern : FnScope N_pattern ["cells"] (defScope s_pattern) := ⟨rfl, rfl, rfl, by decide +kernel, rfl, by decide +kernel, by decide +kernel⟩
abbrev s_moved : Stmt := topS 9
abbrev N_moved : List Str := ["cells", "rows", "columns", "row", "column"]
theorem sc_moved : FnScope N_moved ["cells", "rows", "columns"] (defScope s_moved) := ⟨rfl, rfl, rfl, by decide +kernel, rfl, by decide +kernel, by decide +kernel⟩
abbrev s_home : Stmt := topS 10
abbrev N_home : List Str := ["cells", "least_row", "least_column", "row", "_", "column"]
theorem sc_home : FnScope N_home ["cells"] (defScope s_home) := ⟨rfl, rfl, rfl, by decide +kernel, rfl, by decide +kernel, by decide +kernel⟩
abbrev s_read_picture : Stmt := topS 11
abbrev N_read_picture : List Str := ["strings", "cells", "row", "string", "column", "sign"]
theorem sc_read_picture : FnScope N_read_picture ["strings"] (defScope s_read_picture) := ⟨rfl, rfl, rfl, by decide +kernel, rfl, by decide +kernel, by decide +kernel⟩
abbrev s_check_string : Stmt := topS 12
abbrev N_check_string : List Str := ["row", "string", "width", "column", "sign"]
theorem sc_check_string : FnScope N_check_string ["row", "string", "width"] (defScope s_check_string) := ⟨rfl, rfl, rfl, by decide +kernel, rfl, by decide +kernel, by decide +kernel⟩
abbrev s_picture : Stmt := topS 13
abbrev N_picture : List Str := ["cells", "living", "height", "width", "signs", "row", "column", "_"]
theorem sc_picture : FnScope N_picture ["cells"] (defScope s_picture) := ⟨rfl, rfl, rfl, by decide +kernel, rfl, by decide +kernel, by decide +kernel⟩
abbrev s_law_cell : Stmt := topS 15
abbrev N_law_cell : List Str := ["script", "k"]
theorem sc_law_cell : FnScope N_law_cell ["script", "k"] (defScope s_law_cell) := ⟨rfl, rfl, rfl, by decide +kernel, rfl, by decide +kernel, by decide +kernel⟩
abbrev s_law_row : Stmt := topS 16
abbrev N_law_row : List Str := ["cell", "count", "bound", "rest", "mixed", "row", "k"]
theorem sc_law_row : FnScope N_law_row ["cell", "count", "bound"] (defScope s_law_row) := ⟨rfl, rfl, rfl, by decide +kernel, rfl, by decide +kernel, by decide +kernel⟩
abbrev s_law_integer : Stmt := topS 17
abbrev N_law_integer : List Str := ["value"]
theorem sc_law_integer : FnScope N_law_integer ["value"] (defScope s_law_integer) := ⟨rfl, rfl, rfl, by decide +kernel, rfl, by decide +kernel, by decide +kernel⟩
abbrev s_law_cells : Stmt := topS 18
abbrev N_law_cells : List Str := ["value", "cell"]
theorem sc_law_cells : FnScope N_law_cells ["value"] (defScope s_law_cells) := ⟨rfl, rfl, rfl, by decide +kernel, rfl, by decide +kernel, by decide +kernel⟩
abbrev s_law_some : Stmt := topS 19
abbrev N_law_some : List Str := ["cell", "count", "height", "width", "x", "found", "y", "place"]
theorem sc_law_some : FnScope N_law_some ["cell", "count", "height", "width"] (defScope s_law_some) := ⟨rfl, rfl, rfl, by decide +kernel, rfl, by decide +kernel, by decide +kernel⟩
abbrev s_law_due : Stmt := topS 20
abbrev N_law_due : List Str := ["strings", "found", "r", "c"]
theorem sc_law_due : FnScope N_law_due ["strings"] (defScope s_law_due) := ⟨rfl, rfl, rfl, by decide +kernel, rfl, by decide +kernel, by decide +kernel⟩
abbrev s_law : Stmt := topS 21
abbrev N_law : List Str := ["script", "first", "cells", "strings", "top", "left", "due", "r", "width", "other", "k", "x", "at", "found", "fault", "handed", "told", "error", "others", "c"]
theorem sc_law : FnScope N_law ["script"] (defScope s_law) := ⟨rfl, rfl, rfl, by decide +kernel, rfl, by decide +kernel, by decide +kernel⟩
structure Txt (P : Program) (K : PySem.W.Frag) (mg : Str → Option Value) where
  f_pattern : Addr
  d_pattern : FuncData
  F_pattern : Fun K "pattern" "pattern" s_pattern f_pattern d_pattern
  b_pattern : Binds K d_pattern ["cells"] []
  g_pattern : mg "pattern" = some (.ref f_pattern)
  f_moved : Addr
  d_moved : FuncData
  F_moved : Fun K "moved" "moved" s_moved f_moved d_moved
  b_moved : Binds K d_moved ["cells", "rows", "columns"] []
  g_moved : mg "moved" = some (.ref f_moved)
  f_home : Addr
  d_home : FuncData
  F_home : Fun K "home" "home" s_home f_home d_home
  b_home : Binds K d_home ["cells"] []
  g_home : mg "home" = some (.ref f_home)
  f_read_picture : Addr
  d_read_picture : FuncData
  F_read_picture : Fun K "read_picture" "read_picture" s_read_picture f_read_picture d_read_picture
  b_read_picture : Binds K d_read_picture ["strings"] []
  g_read_picture : mg "read_picture" = some (.ref f_read_picture)
  f_check_string : Addr
  d_check_string : FuncData
  F_check_string : Fun K "_check_string" "_check_string" s_check_string f_check_string d_check_string
  b_check_string : Binds K d_check_string ["row", "string", "width"] []
  g_check_string : mg "_check_string" = some (.ref f_check_string)
  f_picture : Addr
  d_picture : FuncData
  F_picture : Fun K "picture" "picture" s_picture f_picture d_picture
  b_picture : Binds K d_picture ["cells"] []
  g_picture : mg "picture" = some (.ref f_picture)
  f_law_cell : Addr
  d_law_cell : FuncData
  F_law_cell : Fun K "_law_cell" "_law_cell" s_law_cell f_law_cell d_law_cell
  b_law_cell : Binds K d_law_cell ["script", "k"] []
  g_law_cell : mg "_law_cell" = some (.ref f_law_cell)
  f_law_row : Addr
  d_law_row : FuncData
  F_law_row : Fun K "_law_row" "_law_row" s_law_row f_law_row d_law_row
  b_law_row : Binds K d_law_row ["cell", "count", "bound"] []
  g_law_row : mg "_law_row" = some (.ref f_law_row)
  f_law_integer : Addr
  d_law_integer : FuncData
  F_law_integer : Fun K "_law_integer" "_law_integer" s_law_integer f_law_integer d_law_integer
  b_law_integer : Binds K d_law_integer ["value"] []
  g_law_integer : mg "_law_integer" = some (.ref f_law_integer)
  f_law_cells : Addr
  d_law_cells : FuncData
  F_law_cells : Fun K "_law_cells" "_law_cells" s_law_cells f_law_cells d_law_cells
  b_law_cells : Binds K d_law_cells ["value"] []
  g_law_cells : mg "_law_cells" = some (.ref f_law_cells)
  f_law_some : Addr
  d_law_some : FuncData
  F_law_some : Fun K "_law_some" "_law_some" s_law_some f_law_some d_law_some
  b_law_some : Binds K d_law_some ["cell", "count", "height", "width"] []
  g_law_some : mg "_law_some" = some (.ref f_law_some)
  f_law_due : Addr
  d_law_due : FuncData
  F_law_due : Fun K "_law_due" "_law_due" s_law_due f_law_due d_law_due
  b_law_due : Binds K d_law_due ["strings"] []
  g_law_due : mg "_law_due" = some (.ref f_law_due)
  f_law : Addr
  d_law : FuncData
  F_law : Fun K "law" "law" s_law f_law d_law
  b_law : Binds K d_law ["script"] []
  g_law : mg "law" = some (.ref f_law)
  z_sorted : mg "sorted" = none
  z_set : mg "set" = none
  z_min : mg "min" = none
  z_enumerate : mg "enumerate" = none
  z_len : mg "len" = none
  z_max : mg "max" = none
  z_range : mg "range" = none
  z_int : mg "int" = none
  z_abs : mg "abs" = none
  z_isinstance : mg "isinstance" = none
  z_bool : mg "bool" = none
  z_list : mg "list" = none
  z_tuple : mg "tuple" = none
  z_ValueError : mg "ValueError" = none
  c_ALIVE : ∃ u, mg "ALIVE" = some u ∧ RelV (.str (Str.ofString "O")) u
  c_DEAD : ∃ u, mg "DEAD" = some u ∧ RelV (.str (Str.ofString ".")) u
  C_InvalidRule : Addr
  C_LifeError : Addr
  C_InvalidText : Addr
  C_InvalidPicture : Addr
  g_InvalidRule : mg "InvalidRule" = some (.ref C_InvalidRule)
  g_LifeError : mg "LifeError" = some (.ref C_LifeError)
  g_InvalidText : mg "InvalidText" = some (.ref C_InvalidText)
  g_InvalidPicture : mg "InvalidPicture" = some (.ref C_InvalidPicture)
  exm : PySem.W.exmOne K (.ref C_InvalidPicture) (.ref C_LifeError) = some true
  kitT : PySem.W.kitOne K (.ref C_InvalidPicture) (.ref C_InvalidText) = some false
  kitP : PySem.W.kitOne K (.ref C_InvalidPicture) (.ref C_InvalidRule) = some false
  kitR : PySem.W.kitOne K (.ref C_InvalidPicture) (.ref C_InvalidPicture) = some true
  kitV : PySem.W.kitOne K (.ref C_InvalidPicture) (.type "ValueError") = some true
  excC : ExcC K C_InvalidPicture
  f_IP : Addr
  d_IP : FuncData
  cc_IP : Addr
  cd_IP : Value
  fnIP : ∃ (oc : Value) (od : Option Addr) (dV kV doc pm ct : Value) (an : Option Addr) (osl : Array (Option Value)), d_IP = PySem.W.ksFn "__init__" "InvalidPicture.__init__" (defArgs s_InvalidPicture_init) (defBody s_InvalidPicture_init) (defScope s_InvalidPicture_init) dV kV doc pm an cd_IP ct cc_IP ∧ K.lookup f_IP = some ⟨oc, od, .func d_IP, osl⟩
  supIP : SupFn P K "InvalidPicture.__init__" (defArgs s_InvalidPicture_init) (defScope s_InvalidPicture_init) f_IP C_InvalidPicture cc_IP cd_IP "self"
  z_super : mg "super" = none
  iIP : PySem.W.findIn K (.ref C_InvalidPicture) "__init__" = some (some (.ref f_IP))
  tfIP : PySem.W.typeIn K (.ref f_IP) = some (.type "function")
  bIP : Binds K d_IP ["self", "row", "column"] []
  nrIP : PySem.W.findIn K (.ref C_InvalidPicture) "row" = some none
  ncIP : PySem.W.findIn K (.ref C_InvalidPicture) "column" = some none
  xfIP : XfC K C_InvalidPicture
  clIPs : (PySem.W.clsIn K C_InvalidPicture).isSome = true
end My
namespace My
open PySem PySem.Spec PyProof.Rows L2 Vx
open TL
local macro_rules | `(tactic| k_invariant "new" ($n, $H:ident, $e:ident, $h:ident)) => `(tactic| (generalize hE : upd _ _ _ = $H; obtain ⟨$e:ident, $h:ident⟩ := gen_e hE $n; clear hE))
local macro_rules | `(tactic| k_places) => `(tactic| first
  | assumption
  | exact lst_of (by assumption)
  | exact tup_of (by assumption)
  | (refine getS (by assumption) ?_; k_places)
  | (refine Same.seq (by assumption) ?_; k_places)
  | (refine tupS (by assumption) ?_; k_places)
  | (refine lst_of ?_; k_places)
  | (refine tup_of ?_; k_places))
local macro_rules | `(tactic| k_subL) => `(tactic| first
  | k_places
  | solve_by_elim (maxDepth := 10) [getS, lst_of, tup_of, Same.seq, tupS])
local macro_rules | `(tactic| k_offL) => `(tactic| first
  | (show (0 : Int) < _; first | omega | decide)
  | (refine ⟨?_, ?_⟩ <;> first | omega | decide)
  | exact .inr ⟨by decide, by decide⟩
  | exact .inl ⟨by decide, by decide⟩
  | exact .inl ⟨by omega, by omega⟩
  | omega)
local macro_rules | `(tactic| k_clsL) => `(tactic| exact Nat.le_of_ble_eq_true rfl)
local macro_rules | `(tactic| k_upd) => `(tactic| simp only [L2.start, List.map_cons, List.map_nil, List.length_cons, List.length_nil, List.replicate_succ, List.replicate_zero, List.cons_append, List.nil_append, List.set_cons_zero, List.set_cons_succ])
section
variable {P : Program} {w : World} {K : PySem.W.Frag} {mg : Str → Option Value} {base : Heap}
theorem len_app (a b : Str) : (a ++ b).length = a.length + b.length := by
  rw [len_tl, tl_append, List.length_append, ← len_tl, ← len_tl]
/-! ### the picture's own error -/
def sp_IP (C : Addr) : Sp := fun vs H Q _ => ∃ (a : Addr) (r c : Int), vs = [.ref a, .int r, .int c] ∧ H a = some (exo a C none) ∧ r.natAbs < 1000000 ∧ c.natAbs < 1000000 ∧ ∀ d, H d = none → d ≠ a → Q .non (upd (upd (upd H d (exd d [("row", .int r)])) a (exo a C (some d))) d (exd d [("column", .int c), ("row", .int r)]))
theorem log_small {n : Nat} (h : n < 1000000) : n.log2 < 1920 := by
  rcases Nat.eq_zero_or_pos n with z | z
  · rw [z]
    decide
  · have : n.log2 < 20 := (Nat.log2_lt (by omega)).mpr (by omega)
    omega
theorem ok_IP (T : Txt P K mg) : FnOk P w K mg base CX0 1 T.f_IP T.d_IP ["self", "row", "column"] (sp_IP T.C_InvalidPicture) := by
  obtain ⟨oc, od, dV, kV, doc, pm, ct, an, osl, e, lk⟩ := T.fnIP
  rw [e] at lk ⊢
  refine fn_super lk sc_InvalidPicture_init T.supIP rfl T.z_super rfl (fun _ => rfl) (fun _ => rfl) (fun _ => rfl) (fun _ => rfl) (fun vs H Q E h => ?_) fun A outer s H vs Q E hr h => ?_
  · obtain ⟨_, _, _, rfl, _⟩ := h
    rfl
  · obtain ⟨a, r, c, rfl, ha, lr, lc, q⟩ := h
    refine ⟨a, _, _, rfl, ha, pa_cons (pe_joined (.cons pe_str (.cons (pe_fmt (pv 1)) (.cons pe_str (.cons (pe_fmt (pv 2)) .nil))))) pa_nil, pss_cons (ps_ost (pv 0) (pv 1)) (pss_one (ps_ost (pv 0) (pv 2))), ?_⟩
    have l1 := PyProof.Rows.int_text_len_1921 (log_small lr)
    have l2 := PyProof.Rows.int_text_len_1921 (log_small lc)
    have e0 : (Str.empty ++ Str.ofString "not a picture at row ").length = 21 := by decide +kernel
    have e1 : (Str.ofString ", column ").length = 9 := by decide +kernel
    refine ⟨_, rfl, ?_, _, rfl, .inr ⟨r, rfl, log_small lr, _, rfl, ?_, _, rfl, ?_, _, rfl, .inr ⟨c, rfl, log_small lc, _, rfl, ?_, ?_⟩⟩⟩
    · rw [e0]
      decide
    · rw [len_app, e0, sizeLine_eq]
      exact (show 21 + (Str.ofString (toString r)).length ≤ 16777216 by omega)
    · rw [len_app, len_app, e0, e1, sizeLine_eq]
      exact (show 21 + (Str.ofString (toString r)).length + 9 ≤ 16777216 by omega)
    · rw [len_app, len_app, len_app, e0, e1, sizeLine_eq]
      exact (show 21 + (Str.ofString (toString r)).length + 9 + (Str.ofString (toString c)).length ≤ 16777216 by omega)
    refine ⟨Nat.le_of_ble_eq_true rfl, ha, _, rfl, _, rfl, a, _, rfl, T.supIP.oex, T.nrIP, .inl ⟨ha, fun d nd ne => ?_⟩⟩
    refine ⟨_, rfl, _, rfl, a, _, rfl, T.supIP.oex, T.ncIP, .inr ⟨d, _, upd_same, ?_, Nat.le_of_ble_eq_true rfl, q d nd ne⟩⟩
    rw [upd_ne ne]
    exact upd_same
end
end My
namespace My
open PySem PySem.Spec PyProof.Rows L2 Vx
open TL
local macro_rules | `(tactic| k_invariant "new" ($n, $H:ident, $e:ident, $h:ident)) => `(tactic| (generalize hE : upd _ _ _ = $H; obtain ⟨$e:ident, $h:ident⟩ := gen_e hE $n; clear hE))
local macro_rules | `(tactic| k_places) => `(tactic| first
  | assumption
  | exact lst_of (by assumption)
  | exact tup_of (by assumption)
  | (refine getS (by assumption) ?_; k_places)
  | (refine Same.seq (by assumption) ?_; k_places)
  | (refine tupS (by assumption) ?_; k_places)
  | (refine lst_of ?_; k_places)
  | (refine tup_of ?_; k_places))
local macro_rules | `(tactic| k_subL) => `(tactic| first
  | k_places
  | solve_by_elim (maxDepth := 10) [getS, lst_of, tup_of, Same.seq, tupS])
local macro_rules | `(tactic| k_offL) => `(tactic| first
  | (show (0 : Int) < _; first | omega | decide)
  | (refine ⟨?_, ?_⟩ <;> first | omega | decide)
  | exact .inr ⟨by decide, by decide⟩
  | exact .inl ⟨by decide, by decide⟩
  | exact .inl ⟨by omega, by omega⟩
  | omega)
local macro_rules | `(tactic| k_clsL) => `(tactic| exact Nat.le_of_ble_eq_true rfl)
local macro_rules | `(tactic| k_upd) => `(tactic| simp only [L2.start, List.map_cons, List.map_nil, List.length_cons, List.length_nil, List.replicate_succ, List.replicate_zero, List.cons_append, List.nil_append, List.set_cons_zero, List.set_cons_succ])
section
variable {P : Program} {w : World} {K : PySem.W.Frag} {mg : Str → Option Value} {base : Heap}
/-! ### reading a picture -/
theorem walk_enumS {x : Str} : Walk (IteS x) x.cps.size (fun _ => True) (YPair (fun i => some (.int (i : Nat))) (fun i => x.cps[i]?.map fun c => V.str ⟨#[c]⟩)) := by
  refine ⟨fun i _ hi _ => hi, fun _ _ => rfl, fun i H v H' _ _ y => ?_⟩
  obtain ⟨T, c, h1, h2, h3, h4⟩ := y
  exact ⟨T, .int (i : Nat), .str ⟨#[c]⟩, h1, h2, h4, rfl, by show Option.map _ x.cps[i]? = _; rw [h3]; rfl⟩
def okC (c : Nat) : Bool := decide (c = 79 ∨ c = 46)
/-- where a row stops being one -/
def faultF (w : Nat) (cs : List Nat) : Option Nat := match cs.findIdx? (fun c => !okC c) with
  | some k => some k
  | none => if cs.length = w then none else some (min cs.length w)
theorem fault_bad {w i c : Nat} {cs : List Nat} (h : ∀ j c, j < i → cs[j]? = some c → okC c = true) (hi : cs[i]? = some c) (b : okC c = false) : faultF w cs = some i := by
  have : cs.findIdx? (fun c => !okC c) = some i := by
    obtain ⟨hl, hc⟩ := List.getElem?_eq_some_iff.mp hi
    refine List.findIdx?_eq_some_iff_getElem.mpr ⟨hl, by rw [hc, b]; rfl, fun j hj => ?_⟩
    have := h j cs[j] hj (List.getElem?_eq_getElem (by omega))
    rw [this]
    decide
  unfold faultF
  rw [this]
theorem fault_ok {w : Nat} {cs : List Nat} (h : ∀ j c, j < cs.length → cs[j]? = some c → okC c = true) : faultF w cs = if cs.length = w then none else some (min cs.length w) := by
  have : cs.findIdx? (fun c => !okC c) = none := List.findIdx?_eq_none_iff.mpr fun c m => by
    obtain ⟨j, hj, e⟩ := List.mem_iff_getElem.mp m
    have := h j c hj (by rw [← e]; exact List.getElem?_eq_getElem hj)
    rw [this]
    rfl
  unfold faultF
  rw [this]
theorem inV_OD (c : Nat) : inV (.str ⟨#[c]⟩) [.str (Str.ofString "O"), .str (Str.ofString ".")] = okC c := by
  have hO : Str.ofString "O" = ⟨#[79]⟩ := by decide +kernel
  have hD : Str.ofString "." = ⟨#[46]⟩ := by decide +kernel
  have e1 : ∀ a b : Nat, ((⟨#[a]⟩ : Str) == ⟨#[b]⟩) = decide (b = a) := fun a b => by
    by_cases e : b = a
    · subst e
      rw [decide_eq_true rfl]
      exact beq_self_eq_true _
    · rw [decide_eq_false e]
      refine beq_eq_false_iff_ne.mpr fun z => ?_
      have := congrArg (fun s : Str => s.cps[0]?) z
      simp at this
      exact e this.symm
  rw [hO, hD]
  show ((⟨#[79]⟩ : Str) == ⟨#[c]⟩ || ((⟨#[46]⟩ : Str) == ⟨#[c]⟩ || false)) = okC c
  rw [e1, e1, Bool.or_false]
  unfold okC
  rw [Bool.decide_or]
def sp_check_string (IP : Addr) : Sp := fun vs H Q E => ∃ (r : Int) (z : Str) (w : Nat), vs = [.int r, .str z, .int (w : Int)] ∧ r.natAbs < 100000 ∧ z.cps.size < 100000 ∧ w < 100000 ∧
  (∀ k, faultF w (tl z) = some k → ∀ (H' : Hp) (d : Addr), Same H H' → H' d = some (.xd [("column", .int (k : Nat)), ("row", .int r)]) → E (.ref IP) (some d) H') ∧ (faultF w (tl z) = none → ∀ H', Same H H' → Q .non H')
theorem ok_check_string (T : Txt P K mg) : FnOk P w K mg base (L2.CX P w) 3 T.f_check_string T.d_check_string ["row", "string", "width"] (sp_check_string T.C_InvalidPicture) := by
  refine T.F_check_string.okX sc_check_string (fun vs H Q E h => ?_) (fun cdv A outer s H vs Q E hr h => ?_)
  · obtain ⟨_, _, _, rfl, _⟩ := h
    rfl
  · obtain ⟨r, z, wd, rfl, lr, lz, lw, qe, q⟩ := h
    refine ⟨_, (pss_cons (ps_for (passes_of rfl) rfl (pi_enumS (by rfl) T.z_enumerate (pa_cons (pv 1) pa_nil)) (pg_tupK (K := K) (n := 2) rfl rfl (pgs_cons (pg_name (i := 3) sc_check_string.nd rfl (.inl rfl)) (pgs_cons (pg_name (i := 4) sc_check_string.nd rfl (.inl rfl)) pgs_nil)))
      (pss_one (ps_if (pt_cmpR op_notIn_seq (pv 4) (pe_tup (pa_cons (pe_gcx (by rfl) T.c_ALIVE) (pa_cons (pe_gcx (by rfl) T.c_DEAD) pa_nil))) rfl)
      (pss_one (ps_raise rfl (takes_of rfl rfl rfl rfl) (pmk_oex T.supIP.oex T.iIP T.tfIP (ok_IP T) (hr.mono (by decide)) T.bIP .nil pass0 (by rfl) T.g_InvalidPicture (pa_cons (pv 0) (pa_cons (pv 3) pa_nil)))))
      pss_nil)))
      (pss_one (ps_if (pt_cmpR op_ne (pe_callB call_len_str (by rfl) T.z_len (by decide +kernel) (pa_cons (pv 1) pa_nil)) (pv 2) (nomark _))
      (pss_one (ps_raise rfl (takes_of rfl rfl rfl rfl) (pmk_oex T.supIP.oex T.iIP T.tfIP (ok_IP T) (hr.mono (by decide)) T.bIP .nil pass0 (by rfl) T.g_InvalidPicture (pa_cons (pv 0) (pa_cons (pe_callB (call_min2 rfl) (by rfl) T.z_min (by decide +kernel) (pa_cons (pe_callB call_len_str (by rfl) T.z_len (by decide +kernel) (pa_cons (pv 1) pa_nil)) (pa_cons (pv 2) pa_nil))) pa_nil)))))
      pss_nil))), ?_⟩
    have lz' : (tl z).length = z.cps.size := rfl
    refine ⟨_, rfl, z, rfl, for_it walk_enumS (fun i σ H' => Same H H' ∧ (∀ j c, j < i → (tl z)[j]? = some c → okC c = true) ∧ ∃ x3 x4 : Option V, σ = [some (.int r), some (.str z), some (.int (wd : Int)), x3, x4]) ⟨Same.refl _, fun j c h => absurd h (by omega), _, _, rfl⟩ (fun _ _ _ _ _ => trivial) ?_ ?_⟩
    · rintro i x σ H1 H2 hi ⟨s1, ok, x3, x4, rfl⟩ ⟨t, a, y, rfl, nt, rfl, ea, ey⟩
      have ea' : a = .int ((i : Nat) : Int) := (Option.some.inj ea).symm
      subst ea'
      obtain ⟨c, hc, ey⟩ := Option.map_eq_some_iff.mp ey
      subst ey
      have hc' : (tl z)[i]? = some c := by rw [← hc]; exact Array.getElem?_toList
      k_invariant "new" (nt, H3, e3, g3)
      refine ⟨t, _, rfl, tup_of g3, rfl, _, _, rfl, _, _, rfl, rfl, ?_⟩
      k_upd
      refine ⟨_, rfl, (by k_clsL), fun p np => ⟨p, _, rfl, .inr (tup_of upd_same), rfl, rfl, ?_⟩⟩
      k_invariant "new" (np, H4, e4, g4)
      have s4 := s1.trans (e3.trans e4)
      rw [inV_OD]
      cases b : okC c with
      | true =>
        refine ⟨_, rfl, iteF ?_⟩
        refine ⟨s4, fun j d hj hd => ?_, _, _, rfl⟩
        by_cases e : j = i
        · subst e
          rw [hc'] at hd
          obtain rfl := Option.some.inj hd
          exact b
        · exact ok j d (by omega) hd
      | false =>
        refine ⟨_, rfl, iteT ?_⟩
        refine ⟨_, rfl, _, rfl, by k_clsL, fun a na => ⟨a, r, _, rfl, upd_same, by omega, by omega, fun d nd ne => ⟨rfl, d, _, ?_, upd_same, ?_, ?_⟩⟩⟩
        · rw [upd_ne (Ne.symm ne)]
          exact upd_same
        · rw [upd_ne ne] at nd
          exact nd
        · rw [upd_ne ne] at nd
          refine qe i (fault_bad ok hc' b) _ _ (fun b o h => ?_) upd_same
          have h4 := s4 _ _ h
          have n1 : b ≠ d := fun z => by rw [z, nd] at h4; cases h4
          have n2 : b ≠ a := fun z => by rw [z, na] at h4; cases h4
          rw [upd_ne n1, del_ne n2, upd_ne n1, upd_ne n2, upd_ne n1, upd_ne n2]
          exact h4
    · rintro σ H1 ⟨s1, ok, x3, x4, rfl⟩
      have fo := fault_ok (w := wd) (cs := tl z) fun j c hj hc => ok j c hj hc
      refine ⟨_, rfl, z, rfl, ?_, _, rfl, ?_⟩
      · rw [sizeLine_eq]
        exact (show z.cps.size ≤ 16777216 by omega)
      by_cases e : z.cps.size = wd
      · refine ⟨rfl, _, rfl, ite2 (fun c => ?_) (fun c => ?_)⟩
        · rw [decide_eq_true (show V.int ((z.length : Nat) : Int) = V.int (wd : Int) from congrArg (fun n : Nat => V.int (n : Int)) e)] at c
          cases c
        · exact q (by rw [fo, if_pos (lz'.trans e)]) H1 s1
      · refine ⟨rfl, _, rfl, ite2 (fun c => ?_) (fun c => ?_)⟩
        · refine ⟨_, rfl, _, rfl, z, rfl, ?_, _, rfl, _, _, rfl, (by k_clsL), fun a na => ⟨a, r, _, rfl, upd_same, by omega, ?_, fun d nd ne => ⟨rfl, d, _, ?_, upd_same, ?_, ?_⟩⟩⟩
          · rw [sizeLine_eq]
            exact (show z.cps.size ≤ 16777216 by omega)
          · show (if (wd : Int) < ((z.cps.size : Nat) : Int) then (wd : Int) else ((z.cps.size : Nat) : Int)).natAbs < 1000000
            split <;> omega
          · rw [upd_ne (Ne.symm ne)]
            exact upd_same
          · rw [upd_ne ne] at nd
            exact nd
          · rw [upd_ne ne] at nd
            have em : (if (wd : Int) < ((z.length : Nat) : Int) then (wd : Int) else ((z.length : Nat) : Int)) = ((min (tl z).length wd : Nat) : Int) := by
              rw [lz', show z.length = z.cps.size from rfl]
              split <;> omega
            refine qe (min (tl z).length wd) (by rw [fo, if_neg (by rw [lz']; exact e)]) _ _ (fun b o h => ?_) (by rw [upd_same, em])
            have h4 := s1 _ _ h
            have n1 : b ≠ d := fun z => by rw [z, nd] at h4; cases h4
            have n2 : b ≠ a := fun z => by rw [z, na] at h4; cases h4
            rw [upd_ne n1, del_ne n2, upd_ne n1, upd_ne n2, upd_ne n1, upd_ne n2]
            exact h4
        · refine absurd ?_ c
          rw [decide_eq_false (fun h : V.int ((z.length : Nat) : Int) = V.int (wd : Int) => e (Int.ofNat.inj (V.int.inj h)))]
          rfl
theorem cells_push {H H2 : Hp} {D t : Addr} {ps : List Pr} {x : Pr} (h : Cells H D ps) (e : Same H H2) (g : H2 t = some (.tup [.int x.1, .int x.2])) :
    ∃ acc, H2 D = some (.lst acc) ∧ acc.length = ps.length ∧ Cells (upd H2 D (.lst (acc ++ [.ref t]))) D (ps ++ [x]) := by
  obtain ⟨ts, h1, h2, h3⟩ := h
  have hD := e _ _ h1
  have off : ∀ b o, H2 b = some o → (∀ xs, o ≠ .lst xs) → upd H2 D (.lst ((ts.map fun t => V.ref t.1) ++ [.ref t])) b = some o := fun b o k ne => by
    rw [upd_ne fun z => ?_]
    · exact k
    · rw [z, hD] at k
      exact ne _ (Option.some.inj k).symm
  refine ⟨_, hD, by rw [← h3, List.length_map, List.length_map], ts ++ [(t, x)], by rw [upd_same, List.map_append]; rfl, fun u m => ?_, by rw [List.map_append, h3]; rfl⟩
  rcases List.mem_append.mp m with m | m
  · exact off _ _ (e _ _ (h2 u m)) (fun _ z => by cases z)
  · rw [List.mem_singleton.mp m]
    exact off _ _ g (fun _ z => by cases z)
theorem strO (c : Nat) : decide (V.str ⟨#[c]⟩ = V.str (Str.ofString "O")) = decide (c = 79) := by
  have hO : Str.ofString "O" = ⟨#[79]⟩ := by decide +kernel
  rw [hO]
  by_cases e : c = 79
  · rw [e, decide_eq_true rfl, decide_eq_true rfl]
  · rw [decide_eq_false e, decide_eq_false]
    intro z
    have := congrArg (fun s : Str => s.cps[0]?) (V.str.inj z)
    simp at this
    exact e this
/-- the living cells of a row -/
def liveK (r : Int) (cs : List Nat) (n : Nat) : List Pr := ((List.range n).filter fun k => decide (cs[k]? = some 79)).map fun (k : Nat) => (r, (k : Int))
theorem liveK_succ (r : Int) (cs : List Nat) (n : Nat) : liveK r cs (n + 1) = liveK r cs n ++ if cs[n]? = some 79 then [(r, (n : Int))] else [] := by
  unfold liveK
  rw [List.range_succ, List.filter_append, List.map_append]
  by_cases e : cs[n]? = some 79
  · rw [if_pos e]
    simp [e]
  · rw [if_neg e]
    simp [e]
theorem liveK_len (r : Int) (cs : List Nat) (n : Nat) : (liveK r cs n).length ≤ n := by
  unfold liveK
  rw [List.length_map]
  exact Nat.le_trans (List.length_filter_le _ _) (by rw [List.length_range]; exact Nat.le_refl _)
/-- the living cells of the first rows -/
def liveT (zs : List Str) : Nat → List Pr
  | 0 => []
  | n + 1 => liveT zs n ++ match zs[n]? with
    | some z => liveK (n : Int) (tl z) (tl z).length
    | none => []
theorem liveT_len {zs : List Str} {b : Nat} (h : ∀ z ∈ zs, z.cps.size ≤ b) : ∀ n, (liveT zs n).length ≤ n * b
  | 0 => Nat.zero_le _
  | n + 1 => by
    show (liveT zs n ++ _).length ≤ _
    rw [List.length_append, Nat.succ_mul]
    refine Nat.add_le_add (liveT_len h n) ?_
    cases e : zs[n]? with
    | none => exact Nat.zero_le _
    | some z => exact Nat.le_trans (liveK_len _ _ _) (h z (List.mem_of_getElem? e))
/-- where a picture stops being one -/
def faultP (zs : List Str) (w : Nat) : Nat → Option Pr
  | 0 => none
  | n + 1 => match faultP zs w n with
    | some x => some x
    | none => match zs[n]? with
      | some z => (faultF w (tl z)).map fun (k : Nat) => ((n : Int), (k : Int))
      | none => none
def widthP (zs : List Str) : Nat := match zs with
  | z :: _ => (tl z).length
  | [] => 0
theorem faultP_more {zs : List Str} {w n : Nat} {x : Pr} (h : faultP zs w n = some x) : ∀ m, faultP zs w (n + m) = some x
  | 0 => h
  | m + 1 => by
    show (match faultP zs w (n + m) with | some x => some x | none => _) = some x
    rw [faultP_more h m]
def sp_read_picture (IP : Addr) : Sp := fun vs H Q E => ∃ (l : Addr) (zs : List Str), vs = [.ref l] ∧ H l = some (.lst (zs.map V.str)) ∧ zs.length ≤ 100 ∧ (∀ z ∈ zs, z.cps.size ≤ 100) ∧
  (∀ x : Pr, faultP zs (widthP zs) zs.length = some x → ∀ (H' : Hp) (d : Addr), Same H H' → H' d = some (.xd [("column", .int x.2), ("row", .int x.1)]) → E (.ref IP) (some d) H') ∧
  (faultP zs (widthP zs) zs.length = none → ∀ (H' : Hp) (p : Addr), H p = none → Same H H' → Cells H' p (liveT zs zs.length) → Q (.ref p) H')
theorem ok_read_picture (T : Txt P K mg) : FnOk P w K mg base (L2.CX P w) 4 T.f_read_picture T.d_read_picture ["strings"] (sp_read_picture T.C_InvalidPicture) := by
  refine T.F_read_picture.okX sc_read_picture (fun vs H Q E h => ?_) (fun cdv A outer s H vs Q E hr h => ?_)
  · obtain ⟨_, _, rfl, _⟩ := h
    rfl
  · obtain ⟨l, zs, rfl, hl, lz, lzz, qe, q⟩ := h
    refine ⟨_, (pss_cons (ps_set (i := 1) sc_read_picture.nd rfl (.inl rfl) (pe_lst pa_nil))
      (pss_cons (ps_for (passes_of rfl) rfl (pi_enum (by rfl) T.z_enumerate (pa_cons (pv 0) pa_nil)) (pg_tupK (K := K) (n := 2) rfl rfl (pgs_cons (pg_name (i := 2) sc_read_picture.nd rfl (.inr rfl)) (pgs_cons (pg_name (i := 3) sc_read_picture.nd rfl (.inl rfl)) pgs_nil)))
      (pss_cons (ps_expr (pe_call (ok_check_string T) (hr.mono (by decide)) (by rfl) T.g_check_string T.F_check_string.kp T.b_check_string .nil (passes_call (takes_of rfl rfl rfl rfl) (fun _ _ _ _ h => h)) (pa_cons (pv 2) (pa_cons (pv 3) (pa_cons (pe_callB call_len_str (by rfl) T.z_len (by decide +kernel) (pa_cons (pe_ix ix_list (pv 0) pe_int (fun _ _ => rfl)) pa_nil)) pa_nil)))))
      (pss_one (ps_expr (pe_bm PySem.F.plainAttrs_list PySem.F.slot_list_extend PySem.F.type_list_extend mt_extend (pv 1) (pa_cons (pe_lc (own := [("column", 4), ("sign", 5)]) rfl sc_read_picture.nd (pi_enumS (by rfl) T.z_enumerate (pa_cons (pv 3) pa_nil)) (blkOk_by (own := [("column", 4), ("sign", 5)]) (N := N_read_picture) (sc := defScope s_read_picture) (by decide +kernel)) (fun _ _ _ _ _ => (pg_tupK (K := K) (n := 2) rfl rfl (pgs_cons (pg_name (i := 4) sc_read_picture.nd rfl (.inl rfl)) (pgs_cons (pg_name (i := 5) sc_read_picture.nd rfl (.inl rfl)) pgs_nil)))) (fun _ _ _ _ _ => pts_one (pt_cmpR op_eq (pv 5) (pe_gcx (by rfl) T.c_ALIVE) (nomark _))) (fun _ _ _ _ _ => (pe_tup (pa_cons (pv 2) (pa_cons (pv 4) pa_nil))))) pa_nil))))))
      (pss_one (ps_ret (pv 1))))), ?_⟩
    k_upd
    refine ⟨by k_clsL, fun p np => ?_⟩
    k_invariant "new" (np, H1, e1, g1)
    have hl1 := e1 _ _ hl
    have npl : p ≠ l := fun e => by rw [e, hl] at np; cases np
    refine ⟨_, rfl, l, _, rfl, lst_of hl1, for_it (walk_enum (K := K) (a := l) (xs := zs.map V.str)) (fun i σ H' => Same H H' ∧ faultP zs (widthP zs) i = none ∧ Cells H' p (liveT zs i) ∧ ∃ x2 x3 : Option V, σ = [some (.ref l), some (.ref p), x2, x3, none, none]) ⟨e1, rfl, ⟨[], g1, fun _ m => (by cases m), rfl⟩, _, _, rfl⟩ (fun i σ H' _ h => lst_of (h.1 _ _ hl)) ?_ ?_⟩
    · rintro i x σ H2 H3 hi ⟨s2, nf, hC, x2, x3, rfl⟩ ⟨t, a, y, rfl, nt, rfl, ea, ey⟩
      have ea' : a = .int ((i : Nat) : Int) := (Option.some.inj ea).symm
      subst ea'
      have ey' : (zs.map V.str)[i]? = some y := ey
      rw [List.getElem?_map] at ey'
      obtain ⟨z, hz, rfl⟩ := Option.map_eq_some_iff.mp ey'
      k_invariant "new" (nt, H4, e4, g4)
      refine ⟨t, _, rfl, tup_of g4, rfl, _, _, rfl, _, _, rfl, rfl, ?_⟩
      k_upd
      have lzi := lzz z (List.mem_of_getElem? hz)
      have hi' : i < zs.length := by rwa [List.length_map] at hi
      obtain ⟨z0, zr, ez⟩ : ∃ z0 zr, zs = z0 :: zr := by
        cases zs with
        | nil => cases hz
        | cons z0 zr => exact ⟨z0, zr, rfl⟩
      have ew : widthP zs = z0.cps.size := by rw [ez]; rfl
      have at0 : atI (zs.map V.str) 0 = some (.str z0) := by rw [ez]; exact atI_nat (j := 0) rfl
      have l0 := lzz z0 (by rw [ez]; exact List.mem_cons_self)
      have hl4 := e4 _ _ (s2 _ _ hl)
      have hstep : faultP zs (widthP zs) (i + 1) = (faultF (widthP zs) (tl z)).map fun (k : Nat) => ((i : Int), (k : Int)) := by
        show (match faultP zs (widthP zs) i with | some x => some x | none => _) = _
        rw [nf]
        show (match zs[i]? with | some z => _ | none => none) = _
        rw [hz]
      have s4 := s2.trans e4
      refine ⟨_, rfl, _, rfl, _, rfl, l, _, 0, _, rfl, rfl, lst_of hl4, at0, z0, rfl, ?_, ?_⟩
      · rw [sizeLine_eq]
        exact (show z0.cps.size ≤ 16777216 by omega)
      refine ⟨(i : Int), z, z0.cps.size, rfl, by omega, by omega, by omega, fun k hk H5 d e5 hd => ?_, fun hno H5 e5 => ?_⟩
      · rw [← ew] at hk
        rw [hk] at hstep
        have := faultP_more hstep (zs.length - (i + 1))
        rw [show i + 1 + (zs.length - (i + 1)) = zs.length by omega] at this
        exact qe _ this H5 d (s4.trans e5) hd
      rw [← ew] at hno
      rw [hno] at hstep
      obtain ⟨us, u1, u2, u3⟩ := id hC
      have hp5 := e5 _ _ (e4 _ _ u1)
      refine ⟨_, rfl, .inl ⟨rfl, _, lst_of hp5⟩, _, rfl, z, rfl, fun D nD => turns_enumS (fun j H' => Same H5 H' ∧ Cells H' D (liveK (i : Int) (tl z) j)) ⟨newS nD, [], upd_same, fun _ m => (by cases m), rfl⟩ ?_ ?_⟩
      · rintro j c H6 T6 hj ⟨s6, hC6⟩ n6
        k_invariant "new" (n6, H7, e7, g7)
        refine ⟨T6, _, rfl, tup_of g7, rfl, _, _, rfl, _, _, rfl, rfl, ?_⟩
        refine ⟨rfl, _, rfl, rfl, _, rfl, ?_⟩
        dsimp only
        have hj' : (tl z)[j]? = some c := by rw [← hj]; exact Array.getElem?_toList
        have lj : j < z.cps.size := (Array.getElem?_eq_some_iff.mp hj).1
        have es := liveK_succ (i : Int) (tl z) j
        rw [hj'] at es
        rw [strO]
        by_cases c79 : c = 79
        · rw [decide_eq_true c79]
          refine iteT ⟨_, rfl, _, rfl, (by k_clsL), fun t8 n8 => ?_⟩
          k_invariant "new" (n8, H8, e8, g8)
          obtain ⟨acc, a1, a2, a3⟩ := cells_push (x := ((i : Int), (j : Int))) hC6 (e7.trans e8) g8
          refine ⟨acc, a1, ?_, mutS (s6.trans (e7.trans e8)) nD, ?_⟩
          · have := liveK_len (i : Int) (tl z) j
            rw [a2, sizeLine_eq]
            omega
          · rw [if_pos (by rw [c79])] at es
            rw [es]
            exact a3
        · rw [decide_eq_false c79]
          refine iteF ⟨s6.trans e7, ?_⟩
          rw [if_neg (fun z => c79 (Option.some.inj z)), List.append_nil] at es
          rw [es]
          exact hC6.up e7
      · rintro H6 ⟨s6, hC6⟩
        obtain ⟨ws, w1, w2, w3⟩ := id hC6
        have hp6 := s6 _ _ hp5
        have lu : us.length = (liveT zs i).length := by rw [← u3, List.length_map]
        have lw : ws.length = (liveK (i : Int) (tl z) z.cps.size).length := by rw [← w3, List.length_map]
        have b1 := liveT_len lzz i
        have b2 := liveK_len (i : Int) (tl z) z.cps.size
        refine ⟨_, _, _, _, rfl, rfl, hp6, w1, ?_, ?_⟩
        · rw [List.length_map, List.length_map, sizeLine_eq, lu, lw]
          have : i * 100 ≤ 100 * 100 := Nat.mul_le_mul_right _ (by omega)
          omega
        have off : ∀ b o, H6 b = some o → (∀ xs, o ≠ .lst xs) → upd H6 p (.lst ((us.map fun t => V.ref t.1) ++ ws.map fun t => V.ref t.1)) b = some o := fun b o e ne => by
          rw [upd_ne fun z => ?_]
          · exact e
          · rw [z, hp6] at e
            exact ne _ (Option.some.inj e).symm
        refine ⟨mutS (s4.trans (e5.trans s6)) np, hstep, ⟨us ++ ws, by rw [upd_same, List.map_append], fun t m => ?_, ?_⟩, _, _, rfl⟩
        · rcases List.mem_append.mp m with m | m
          · exact off _ _ (s6 _ _ (e5 _ _ (e4 _ _ (u2 t m)))) (fun _ z => by cases z)
          · exact off _ _ (w2 t m) (fun _ z => by cases z)
        · rw [List.map_append, u3, w3]
          show liveT zs i ++ _ = liveT zs i ++ (match zs[i]? with | some z => liveK (i : Int) (tl z) (tl z).length | none => [])
          rw [hz]
          rfl
    · rintro σ H2 ⟨s2, nf, hC, x2, x3, rfl⟩
      rw [List.length_map] at nf hC
      exact ⟨_, rfl, q nf H2 p np s2 hC⟩
end
end My
namespace My
open PySem PySem.Spec PyProof.Rows L2 Vx
open TL
local macro_rules | `(tactic| k_invariant "new" ($n, $H:ident, $e:ident, $h:ident)) => `(tactic| (generalize hE : upd _ _ _ = $H; obtain ⟨$e:ident, $h:ident⟩ := gen_e hE $n; clear hE))
local macro_rules | `(tactic| k_places) => `(tactic| first
  | assumption
  | exact lst_of (by assumption)
  | exact tup_of (by assumption)
  | (refine getS (by assumption) ?_; k_places)
  | (refine Same.seq (by assumption) ?_; k_places)
  | (refine tupS (by assumption) ?_; k_places)
  | (refine lst_of ?_; k_places)
  | (refine tup_of ?_; k_places))
local macro_rules | `(tactic| k_subL) => `(tactic| first
  | k_places
  | solve_by_elim (maxDepth := 10) [getS, lst_of, tup_of, Same.seq, tupS])
local macro_rules | `(tactic| k_offL) => `(tactic| first
  | (show (0 : Int) < _; first | omega | decide)
  | (refine ⟨?_, ?_⟩ <;> first | omega | decide)
  | exact .inr ⟨by decide, by decide⟩
  | exact .inl ⟨by decide, by decide⟩
  | exact .inl ⟨by omega, by omega⟩
  | omega)
local macro_rules | `(tactic| k_clsL) => `(tactic| exact Nat.le_of_ble_eq_true rfl)
local macro_rules | `(tactic| k_upd) => `(tactic| simp only [L2.start, List.map_cons, List.map_nil, List.length_cons, List.length_nil, List.replicate_succ, List.replicate_zero, List.cons_append, List.nil_append, List.set_cons_zero, List.set_cons_succ])
section
variable {P : Program} {w : World} {K : PySem.W.Frag} {mg : Str → Option Value} {base : Heap}
/-! ### the law's own reading -/
theorem notIn_dotO (c : Nat) : decide (c ∈ (Str.ofString ".O").cps.toList) = okC c := by
  have e : (Str.ofString ".O").cps.toList = [46, 79] := by decide +kernel
  rw [e]
  unfold okC
  simp [or_comm]
theorem strs_at {zs : List Str} {i : Nat} {z : Str} (h : zs[i]? = some z) : atI (zs.map V.str) (i : Int) = some (.str z) := atI_nat (by rw [List.getElem?_map, h]; rfl)
theorem char_at {z : Str} {j c : Nat} (h : (tl z)[j]? = some c) : atI z.cps.toList (j : Int) = some c := atI_nat h
def sp_law_due : Sp := fun vs H Q _ => ∃ (l : Addr) (zs : List Str), vs = [.ref l] ∧ H l = some (.lst (zs.map V.str)) ∧ zs.length ≤ 100 ∧ (∀ z ∈ zs, z.cps.size ≤ 100) ∧
  (∀ x : Pr, faultP zs (widthP zs) zs.length = some x → ∀ (H' : Hp) (p f t : Addr), H p = none → Same H H' → H' p = some (.tup [.ref f, .ref t]) → H' t = some (.tup [.int x.1, .int x.2]) → Q (.ref p) H') ∧
  (faultP zs (widthP zs) zs.length = none → ∀ (H' : Hp) (p f : Addr), H p = none → Same H H' → H' p = some (.tup [.ref f, .non]) → Cells H' f (liveT zs zs.length) → Q (.ref p) H')
theorem ok_law_due (T : Txt P K mg) : FnOk P w K mg base CX0 1 T.f_law_due T.d_law_due ["strings"] sp_law_due := by
  refine T.F_law_due.ok sc_law_due (fun vs H Q E h => ?_) (fun cdv A outer s H vs Q E hr h => ?_)
  · obtain ⟨_, _, rfl, _⟩ := h
    rfl
  · obtain ⟨l, zs, rfl, hl, lz, lzz, qe, q⟩ := h
    refine ⟨_, (pss_cons (ps_set (i := 1) sc_law_due.nd rfl (.inl rfl) (pe_lst pa_nil))
      (pss_cons (ps_for PassesOwn.never rfl (pi_range1 (by rfl) T.z_range (pa_cons (pe_callB call_lenL (by rfl) T.z_len (by decide +kernel) (pa_cons (pv 0) pa_nil)) pa_nil)) (pg_name (i := 2) sc_law_due.nd rfl (.inl rfl))
      (pss_cons (ps_for PassesOwn.never rfl (pi_range1 (by rfl) T.z_range (pa_cons (pe_callB call_len_str (by rfl) T.z_len (by decide +kernel) (pa_cons (pe_ix ix_list (pv 0) (pv 2) (fun _ _ => rfl)) pa_nil)) pa_nil)) (pg_name (i := 3) sc_law_due.nd rfl (.inl rfl))
      (pss_cons (ps_if (pt_cmpR op_notIn_sign (pe_ix ix_str (pe_ix ix_list (pv 0) (pv 2) (fun _ _ => rfl)) (pv 3) (fun _ _ => rfl)) pe_str rfl)
      (pss_one (ps_ret (pe_tup (pa_cons (pv 1) (pa_cons (pe_tup (pa_cons (pv 2) (pa_cons (pv 3) pa_nil))) pa_nil)))))
      pss_nil)
      (pss_one (ps_if (pt_cmpR op_eq (pe_ix ix_str (pe_ix ix_list (pv 0) (pv 2) (fun _ _ => rfl)) (pv 3) (fun _ _ => rfl)) pe_str (nomark _))
      (pss_one (ps_expr (pe_bm PySem.F.plainAttrs_list PySem.F.slot_list_append PySem.F.type_list_append mt_append (pv 1) (pa_cons (pe_tup (pa_cons (pv 2) (pa_cons (pv 3) pa_nil))) pa_nil))))
      pss_nil))))
      (pss_one (ps_if (pt_cmpR op_ne (pe_callB call_len_str (by rfl) T.z_len (by decide +kernel) (pa_cons (pe_ix ix_list (pv 0) (pv 2) (fun _ _ => rfl)) pa_nil)) (pe_callB call_len_str (by rfl) T.z_len (by decide +kernel) (pa_cons (pe_ix ix_list (pv 0) pe_int (fun _ _ => rfl)) pa_nil)) (nomark _))
      (pss_one (ps_ret (pe_tup (pa_cons (pv 1) (pa_cons (pe_tup (pa_cons (pv 2) (pa_cons (pe_callB (call_min2 rfl) (by rfl) T.z_min (by decide +kernel) (pa_cons (pe_callB call_len_str (by rfl) T.z_len (by decide +kernel) (pa_cons (pe_ix ix_list (pv 0) (pv 2) (fun _ _ => rfl)) pa_nil)) (pa_cons (pe_callB call_len_str (by rfl) T.z_len (by decide +kernel) (pa_cons (pe_ix ix_list (pv 0) pe_int (fun _ _ => rfl)) pa_nil)) pa_nil))) pa_nil))) pa_nil)))))
      pss_nil))))
      (pss_one (ps_ret (pe_tup (pa_cons (pv 1) (pa_cons pe_non pa_nil))))))), ?_⟩
    k_upd
    refine ⟨by k_clsL, fun p np => ?_⟩
    k_invariant "new" (np, H1, e1, g1)
    k_upd
    have hl1 := e1 _ _ hl
    refine ⟨_, rfl, l, _, rfl, lst_of hl1, ?_⟩
    refine ⟨_, rfl, by rw [List.length_map]; omega, by rw [List.length_map]; omega, for_range (lo := 0) (n := ((((zs.map V.str).length : Nat)) : Int).toNat) (fun i σ H' => Same H H' ∧ faultP zs (widthP zs) i = none ∧ Cells H' p (liveT zs i) ∧ ∃ x2 x3 : Option V, σ = [some (.ref l), some (.ref p), x2, x3]) ⟨e1, rfl, ⟨[], g1, fun _ m => (by cases m), rfl⟩, _, _, rfl⟩ ?_ ?_⟩
    · rintro i σ H2 hi ⟨s2, nf, hC, x2, x3, rfl⟩
      rw [Int.toNat_natCast, List.length_map] at hi
      refine gName_go ?_
      rw [Int.zero_add]
      k_upd
      obtain ⟨z, hz⟩ : ∃ z, zs[i]? = some z := ⟨_, List.getElem?_eq_getElem hi⟩
      have lzi := lzz z (List.mem_of_getElem? hz)
      have lzs : z.length ≤ sizeLine := by
        rw [sizeLine_eq]
        exact (show z.cps.size ≤ 16777216 by omega)
      obtain ⟨z0, zr, ez⟩ : ∃ z0 zr, zs = z0 :: zr := by
        cases zs with
        | nil => cases hz
        | cons z0 zr => exact ⟨z0, zr, rfl⟩
      have ew : widthP zs = z0.cps.size := by rw [ez]; rfl
      have hz0 : zs[0]? = some z0 := by rw [ez]; rfl
      have l0 := lzz z0 (List.mem_of_getElem? hz0)
      have lzs0 : z0.length ≤ sizeLine := by
        rw [sizeLine_eq]
        exact (show z0.cps.size ≤ 16777216 by omega)
      have hl2 := s2 _ _ hl
      have hstep : faultP zs (widthP zs) (i + 1) = (faultF (widthP zs) (tl z)).map fun (k : Nat) => ((i : Int), (k : Int)) := by
        show (match faultP zs (widthP zs) i with | some x => some x | none => _) = _
        rw [nf]
        show (match zs[i]? with | some z => _ | none => none) = _
        rw [hz]
      have bad : ∀ k, faultF (widthP zs) (tl z) = some k → faultP zs (widthP zs) zs.length = some ((i : Int), (k : Int)) := fun k hk => by
        rw [hk] at hstep
        have := faultP_more hstep (zs.length - (i + 1))
        rw [show i + 1 + (zs.length - (i + 1)) = zs.length by omega] at this
        exact this
      have lz' : (tl z).length = z.cps.size := rfl
      have b1 := liveT_len lzz i
      have b3 : i * 100 ≤ 100 * 100 := Nat.mul_le_mul_right _ (by omega)
      refine ⟨_, rfl, _, rfl, l, _, (i : Int), _, rfl, rfl, lst_of hl2, strs_at hz, z, rfl, lzs, _, rfl, ?_, ?_, for_range (lo := 0) (n := ((((z.length : Nat)) : Int)).toNat) (fun j σ H' => Same H H' ∧ (∀ k c, k < j → (tl z)[k]? = some c → okC c = true) ∧ Cells H' p (liveT zs i ++ liveK (i : Int) (tl z) j) ∧ ∃ x3 : Option V, σ = [some (.ref l), some (.ref p), some (.int (i : Int)), x3])
        ⟨s2, fun k c h => absurd h (Nat.not_lt_zero _), by rw [show liveK (i : Int) (tl z) 0 = [] from rfl, List.append_nil]; exact hC, _, rfl⟩ ?_ ?_⟩
      · have : z.length = z.cps.size := rfl
        omega
      · have : z.length = z.cps.size := rfl
        omega
      · rintro j σ H3 hj ⟨s3, ok, hC3, x3, rfl⟩
        rw [Int.toNat_natCast] at hj
        have hj : j < z.cps.size := hj
        obtain ⟨c, hc⟩ : ∃ c, (tl z)[j]? = some c := ⟨_, List.getElem?_eq_getElem (by rw [lz']; exact hj)⟩
        refine gName_go ?_
        rw [Int.zero_add]
        k_upd
        have hl3 := s3 _ _ hl
        refine ⟨_, rfl, _, rfl, l, _, (i : Int), _, rfl, rfl, lst_of hl3, strs_at hz, _, rfl, z, (j : Int), c, rfl, rfl, lzs, char_at hc, c, _, rfl, rfl, ?_⟩
        rw [notIn_dotO]
        cases b : okC c with
        | false =>
          refine ⟨_, rfl, iteT ⟨_, rfl, _, rfl, _, rfl, (by k_clsL), fun t nt => ?_⟩⟩
          k_invariant "new" (nt, H4, e4, g4)
          refine ⟨(by k_clsL), fun p2 np2 => ?_⟩
          k_invariant "new" (np2, H5, e5, g5)
          exact qe ((i : Int), (j : Int)) (bad j (fault_bad ok hc b)) H5 p2 p t (backS (s3.trans e4) np2) (s3.trans (e4.trans e5)) g5 (e5 _ _ g4)
        | true =>
          refine ⟨_, rfl, iteF ?_⟩
          have ok2 : ∀ k d, k < j + 1 → (tl z)[k]? = some d → okC d = true := fun k d hk hd => by
            by_cases e : k = j
            · subst e
              rw [hc] at hd
              obtain rfl := Option.some.inj hd
              exact b
            · exact ok k d (by omega) hd
          have es := liveK_succ (i : Int) (tl z) j
          rw [hc] at es
          refine ⟨_, rfl, _, rfl, l, _, (i : Int), _, rfl, rfl, lst_of hl3, strs_at hz, _, rfl, z, (j : Int), c, rfl, rfl, lzs, char_at hc, rfl, _, rfl, ?_⟩
          dsimp only
          rw [strO]
          by_cases c79 : c = 79
          · rw [decide_eq_true c79]
            obtain ⟨us, u1, u2, u3⟩ := id hC3
            refine iteT ⟨_, rfl, .inl ⟨rfl, _, lst_of u1⟩, _, rfl, _, rfl, (by k_clsL), fun t8 n8 => ?_⟩
            k_invariant "new" (n8, H8, e8, g8)
            obtain ⟨acc, a1, a2, a3⟩ := cells_push (x := ((i : Int), (j : Int))) hC3 e8 g8
            have b2 := liveK_len (i : Int) (tl z) j
            refine ⟨_, _, _, rfl, rfl, a1, ?_, mutS (s3.trans e8) np, ok2, ?_, _, rfl⟩
            · rw [a2, List.length_append, sizeLine_eq]
              omega
            · rw [if_pos (by rw [c79])] at es
              rw [es, ← List.append_assoc]
              exact a3
          · rw [decide_eq_false c79]
            refine iteF ⟨s3, ok2, ?_, _, rfl⟩
            rw [if_neg (fun z => c79 (Option.some.inj z)), List.append_nil] at es
            rw [es]
            exact hC3
      · rintro σ H3 ⟨s3, ok, hC3, x3, rfl⟩
        rw [Int.toNat_natCast] at ok hC3
        have fo := fault_ok (w := widthP zs) (cs := tl z) fun j c hj hc => ok j c hj hc
        have hl3 := s3 _ _ hl
        refine ⟨_, rfl, _, rfl, l, _, (i : Int), _, rfl, rfl, lst_of hl3, strs_at hz, z, rfl, lzs, _, rfl, l, _, 0, _, rfl, rfl, lst_of hl3, strs_at hz0, z0, rfl, lzs0, ?_⟩
        by_cases e : z.cps.size = z0.cps.size
        · refine ⟨rfl, _, rfl, ite2 (fun c => ?_) (fun c => ?_)⟩
          · rw [decide_eq_true (show V.int ((z.length : Nat) : Int) = V.int ((z0.length : Nat) : Int) from congrArg (fun n : Nat => V.int (n : Int)) e)] at c
            cases c
          · rw [if_pos (by rw [lz', ew]; exact e)] at fo
            rw [fo] at hstep
            refine ⟨s3, hstep, ?_, _, _, rfl⟩
            show Cells H3 p (liveT zs i ++ (match zs[i]? with | some z => liveK (i : Int) (tl z) (tl z).length | none => []))
            rw [hz]
            exact hC3
        · refine ⟨rfl, _, rfl, ite2 (fun c => ?_) (fun c => ?_)⟩
          · refine ⟨_, rfl, _, rfl, _, rfl, _, rfl, l, _, (i : Int), _, rfl, rfl, lst_of hl3, strs_at hz, z, rfl, lzs, _, rfl, l, _, 0, _, rfl, rfl, lst_of hl3, strs_at hz0, z0, rfl, lzs0, _, _, rfl, (by k_clsL), fun t nt => ?_⟩
            k_invariant "new" (nt, H4, e4, g4)
            refine ⟨(by k_clsL), fun p2 np2 => ?_⟩
            k_invariant "new" (np2, H5, e5, g5)
            rw [if_neg (by rw [lz', ew]; exact e)] at fo
            refine qe ((i : Int), ((min (tl z).length (widthP zs) : Nat) : Int)) (bad _ fo) H5 p2 p t (backS (s3.trans e4) np2) (s3.trans (e4.trans e5)) g5 ?_
            rw [e5 _ _ g4]
            have em : (if ((z0.length : Nat) : Int) < ((z.length : Nat) : Int) then ((z0.length : Nat) : Int) else ((z.length : Nat) : Int)) = ((min (tl z).length (widthP zs) : Nat) : Int) := by
              rw [lz', ew, show z.length = z.cps.size from rfl, show z0.length = z0.cps.size from rfl]
              split <;> omega
            rw [em]
          · refine absurd ?_ c
            rw [decide_eq_false (fun h : V.int ((z.length : Nat) : Int) = V.int ((z0.length : Nat) : Int) => e (Int.ofNat.inj (V.int.inj h)))]
            rfl
    · rintro σ H2 ⟨s2, nf, hC, x2, x3, rfl⟩
      rw [Int.toNat_natCast, List.length_map] at nf hC
      refine ⟨_, rfl, by k_clsL, fun p2 np2 => ?_⟩
      k_invariant "new" (np2, H3, e3, g3)
      exact q nf H3 p2 p (backS s2 np2) (s2.trans e3) g3 (hC.up e3)
end
end My
namespace My
open PySem PySem.Spec PyProof.Rows L2 Vx
open TL
local macro_rules | `(tactic| k_invariant "new" ($n, $H:ident, $e:ident, $h:ident)) => `(tactic| (generalize hE : upd _ _ _ = $H; obtain ⟨$e:ident, $h:ident⟩ := gen_e hE $n; clear hE))
local macro_rules | `(tactic| k_places) => `(tactic| first
  | assumption
  | exact lst_of (by assumption)
  | exact tup_of (by assumption)
  | (refine getS (by assumption) ?_; k_places)
  | (refine Same.seq (by assumption) ?_; k_places)
  | (refine tupS (by assumption) ?_; k_places)
  | (refine lst_of ?_; k_places)
  | (refine tup_of ?_; k_places))
local macro_rules | `(tactic| k_subL) => `(tactic| first
  | k_places
  | solve_by_elim (maxDepth := 10) [getS, lst_of, tup_of, Same.seq, tupS])
local macro_rules | `(tactic| k_offL) => `(tactic| first
  | (show (0 : Int) < _; first | omega | decide)
  | (refine ⟨?_, ?_⟩ <;> first | omega | decide)
  | exact .inr ⟨by decide, by decide⟩
  | exact .inl ⟨by decide, by decide⟩
  | exact .inl ⟨by omega, by omega⟩
  | omega)
local macro_rules | `(tactic| k_clsL) => `(tactic| exact Nat.le_of_ble_eq_true rfl)
local macro_rules | `(tactic| k_upd) => `(tactic| simp only [L2.start, List.map_cons, List.map_nil, List.length_cons, List.length_nil, List.replicate_succ, List.replicate_zero, List.cons_append, List.nil_append, List.set_cons_zero, List.set_cons_succ])
section
variable {P : Program} {w : World} {K : PySem.W.Frag} {mg : Str → Option Value} {base : Heap}
/-! ### patterns -/
def addP (dr dc : Int) (x : Pr) : Pr := (x.1 + dr, x.2 + dc)
def turnP (x : Pr) : Pr := (x.2, -x.1)
def mirP (x : Pr) : Pr := (x.1, -x.2)
def sp_pattern : Sp := fun vs H Q _ => ∃ (l : Addr) (ps : List Pr), vs = [.ref l] ∧ Cells H l ps ∧ ps.length < 64 ∧
  ∀ (H' : Hp) (p : Addr) (qs : List Pr), H p = none → Same H H' → Cells H' p qs → CanP ps qs → qs.length < 64 → Q (.ref p) H'
theorem ok_pattern (T : Txt P K mg) : FnOk P w K mg base CX0 1 T.f_pattern T.d_pattern ["cells"] sp_pattern := by
  refine T.F_pattern.ok sc_pattern (fun vs H Q E h => ?_) (fun cdv A outer s H vs Q E hr h => ?_)
  · obtain ⟨_, _, rfl, _⟩ := h
    rfl
  · obtain ⟨l, ps, rfl, hC, few, q⟩ := h
    refine ⟨_, (pss_one (ps_ret (pe_callB (cr_sortedP rfl) (by rfl) T.z_sorted (by decide +kernel) (pa_cons (pe_callTy (cr_setP rfl hr.units) (by rfl) T.z_set (by decide +kernel) (pa_cons (pv 0) pa_nil)) pa_nil)))), ?_⟩
    exact ⟨_, rfl, _, _, rfl, hC, few, fun a H1 e1 n1 h1 => ⟨_, _, rfl, h1, fun p H2 qs e2 n2 h2 pw mem l2 => q H2 p qs (backS e1 n2) (e1.trans e2) h2 ⟨pw, mem⟩ l2⟩⟩
def sp_moved : Sp := fun vs H Q _ => ∃ (l : Addr) (ps : List Pr) (dr dc : Int), vs = [.ref l, .int dr, .int dc] ∧ Cells H l ps ∧ ps.length < 64 ∧
  ∀ (H' : Hp) (p : Addr) (qs : List Pr), H p = none → Same H H' → Cells H' p qs → CanP (ps.map (addP dr dc)) qs → qs.length < 64 → Q (.ref p) H'
theorem lt_line {n : Nat} (h : n < 64) : n < sizeLine := by
  rw [sizeLine_eq]
  omega
theorem ok_moved (T : Txt P K mg) : FnOk P w K mg base CX0 2 T.f_moved T.d_moved ["cells", "rows", "columns"] sp_moved := by
  refine T.F_moved.ok sc_moved (fun vs H Q E h => ?_) (fun cdv A outer s H vs Q E hr h => ?_)
  · obtain ⟨_, _, _, _, rfl, _⟩ := h
    rfl
  · obtain ⟨l, ps, dr, dc, rfl, hC, few, q⟩ := h
    refine ⟨_, (pss_one (ps_ret (pe_call (ok_pattern T) (hr.mono (by decide)) (by rfl) T.g_pattern T.F_pattern.kp T.b_pattern .nil pass0 (pa_cons (pe_lc (own := [("row", 3), ("column", 4)]) (tt := tYes) rfl sc_moved.nd (pi_list (pv 0)) (blkOk_by (own := [("row", 3), ("column", 4)]) (N := N_moved) (sc := defScope s_moved) (by decide +kernel)) (fun _ _ _ _ _ => (pg_tupK (K := K) (n := 2) rfl rfl (pgs_cons (pg_name (i := 3) sc_moved.nd rfl (.inl rfl)) (pgs_cons (pg_name (i := 4) sc_moved.nd rfl (.inl rfl)) pgs_nil)))) (fun _ _ _ _ _ => pts_nil) (fun _ _ _ _ _ => (pe_tup (pa_cons (pe_op op_add (pv 3) (pv 1)) (pa_cons (pe_op op_add (pv 4) (pv 2)) pa_nil))))) pa_nil)))), ?_⟩
    refine ⟨_, rfl, _, rfl, ⟨_, lst_of hC.choose_spec.1⟩, fun D nD => lc_cells (addP dr dc) hC nD (lt_line few) ?_ fun H1 e1 h1 => ?_⟩
    · intro t x H' Po Pn _ ht hq
      exact ⟨t, _, rfl, tup_of ht, rfl, _, _, rfl, _, _, rfl, rfl, rfl, tyesT ⟨_, rfl, _, rfl, _, _, rfl, rfl, _, rfl, _, rfl, _, _, rfl, rfl, (by k_clsL), fun t2 n2 => hq t2 n2⟩⟩
    · exact ⟨_, _, rfl, h1, by rw [List.length_map]; exact few, fun H2 p qs n2 e2 h2 c2 l2 => q H2 p qs (backS e1 n2) (e1.trans e2) h2 c2 l2⟩
/-- a is the least of them -/
def Least (a : Int) (l : List Int) : Prop := a ∈ l ∧ ∀ y, y ∈ l → a ≤ y
theorem Least.uniq {a b : Int} {l : List Int} (h : Least a l) (h2 : Least b l) : a = b := by
  have := h.2 _ h2.1
  have := h2.2 _ h.1
  omega
def rowsP (ps : List Pr) : List Int := ps.map (·.1)
def colsP (ps : List Pr) : List Int := ps.map (·.2)
def sp_home : Sp := fun vs H Q _ => ∃ (l : Addr) (ps : List Pr), vs = [.ref l] ∧ Cells H l ps ∧ ps.length < 64 ∧
  ∀ (H' : Hp) (p : Addr) (qs : List Pr), H p = none → Same H H' → Cells H' p qs → (ps = [] → qs = []) → (∀ a b, Least a (rowsP ps) → Least b (colsP ps) → CanP (ps.map (addP (-a) (-b))) qs) → qs.length < 64 → Q (.ref p) H'
theorem tru_cells {K : PySem.W.Frag} {H : Hp} {l : Addr} {ps : List Pr} (h : Cells H l ps) : TruV K (.ref l) H (!ps.isEmpty) := by
  obtain ⟨ts, h1, _, rfl⟩ := h
  exact .inl ⟨_, lst_of h1, by cases ts <;> rfl⟩
theorem ok_home (T : Txt P K mg) : FnOk P w K mg base CX0 3 T.f_home T.d_home ["cells"] sp_home := by
  refine T.F_home.ok sc_home (fun vs H Q E h => ?_) (fun cdv A outer s H vs Q E hr h => ?_)
  · obtain ⟨_, _, rfl, _⟩ := h
    rfl
  · obtain ⟨l, ps, rfl, hC, few, q⟩ := h
    refine ⟨_, (pss_cons (ps_if (pt_not (pt_truth (pv 0) (by intro _; rfl)))
      (pss_one (ps_ret (pe_lst pa_nil)))
      pss_nil)
      (pss_cons (ps_set (i := 1) sc_home.nd rfl (.inl rfl) (pe_callB (cr_min rfl) (by rfl) T.z_min (by decide +kernel) (pa_cons (pe_lc (own := [("row", 3), ("_", 4)]) (tt := tYes) rfl sc_home.nd (pi_list (pv 0)) (blkOk_by (own := [("row", 3), ("_", 4)]) (N := N_home) (sc := defScope s_home) (by decide +kernel)) (fun _ _ _ _ _ => (pg_tupK (K := K) (n := 2) rfl rfl (pgs_cons (pg_name (i := 3) sc_home.nd rfl (.inl rfl)) (pgs_cons (pg_name (i := 4) sc_home.nd rfl (.inl rfl)) pgs_nil)))) (fun _ _ _ _ _ => pts_nil) (fun _ _ _ _ _ => (pv 3))) pa_nil)))
      (pss_cons (ps_set (i := 2) sc_home.nd rfl (.inl rfl) (pe_callB (cr_min rfl) (by rfl) T.z_min (by decide +kernel) (pa_cons (pe_lc (own := [("_", 4), ("column", 5)]) (tt := tYes) rfl sc_home.nd (pi_list (pv 0)) (blkOk_by (own := [("_", 4), ("column", 5)]) (N := N_home) (sc := defScope s_home) (by decide +kernel)) (fun _ _ _ _ _ => (pg_tupK (K := K) (n := 2) rfl rfl (pgs_cons (pg_name (i := 4) sc_home.nd rfl (.inl rfl)) (pgs_cons (pg_name (i := 5) sc_home.nd rfl (.inl rfl)) pgs_nil)))) (fun _ _ _ _ _ => pts_nil) (fun _ _ _ _ _ => (pv 5))) pa_nil)))
      (pss_one (ps_ret (pe_call (ok_moved T) (hr.mono (by decide)) (by rfl) T.g_moved T.F_moved.kp T.b_moved .nil pass0 (pa_cons (pv 0) (pa_cons (pe_un un_neg (pv 1)) (pa_cons (pe_un un_neg (pv 2)) pa_nil))))))))), ?_⟩
    refine ⟨_, rfl, _, tru_cells hC, ?_⟩
    cases ps with
    | nil =>
      refine ⟨by k_clsL, fun p n => q _ p [] n (newS n) ⟨[], upd_same, fun _ m => (by cases m), rfl⟩ (fun _ => rfl) (fun a b ha _ => ?_) (by decide)⟩
      cases ha.1
    | cons x0 ps =>
      refine ⟨_, rfl, _, rfl, ⟨_, lst_of hC.choose_spec.1⟩, fun D nD => lc_nums (·.1) hC nD (lt_line few) ?_ fun H1 e1 h1 => ?_⟩
      · intro t x H' Po Pn _ ht hq
        exact ⟨t, _, rfl, tup_of ht, rfl, _, _, rfl, _, _, rfl, rfl, rfl, tyesT ⟨_, rfl, hq⟩⟩
      refine ⟨_, _, rfl, lst_of h1, by simp, fun a ma la => ?_⟩
      have hC1 := hC.up e1
      refine ⟨_, rfl, _, rfl, ⟨_, lst_of hC1.choose_spec.1⟩, fun D nD => lc_nums (·.2) hC1 nD (lt_line few) ?_ fun H2 e2 h2 => ?_⟩
      · intro t x H' Po Pn _ ht hq
        exact ⟨t, _, rfl, tup_of ht, rfl, _, _, rfl, _, _, rfl, rfl, rfl, tyesT ⟨_, rfl, hq⟩⟩
      refine ⟨_, _, rfl, lst_of h2, by simp, fun b mb lb => ?_⟩
      refine ⟨_, rfl, _, rfl, _, rfl, _, rfl, _, rfl, _, _, _, _, rfl, hC1.up e2, few, fun H3 p qs n3 e3 h3 c3 l3 => q H3 p qs (backS (e1.trans e2) n3) (e1.trans (e2.trans e3)) h3 (fun z => by cases z) (fun a' b' ha hb => ?_) l3⟩
      rw [ha.uniq ⟨ma, la⟩, hb.uniq ⟨mb, lb⟩]
      exact c3
end
end My
namespace My
open PySem PySem.Spec PyProof.Rows L2 Vx
open TL
local macro_rules | `(tactic| k_invariant "new" ($n, $H:ident, $e:ident, $h:ident)) => `(tactic| (generalize hE : upd _ _ _ = $H; obtain ⟨$e:ident, $h:ident⟩ := gen_e hE $n; clear hE))
local macro_rules | `(tactic| k_places) => `(tactic| first
  | assumption
  | exact lst_of (by assumption)
  | exact tup_of (by assumption)
  | (refine getS (by assumption) ?_; k_places)
  | (refine Same.seq (by assumption) ?_; k_places)
  | (refine tupS (by assumption) ?_; k_places)
  | (refine lst_of ?_; k_places)
  | (refine tup_of ?_; k_places))
local macro_rules | `(tactic| k_subL) => `(tactic| first
  | k_places
  | solve_by_elim (maxDepth := 10) [getS, lst_of, tup_of, Same.seq, tupS])
local macro_rules | `(tactic| k_offL) => `(tactic| first
  | (show (0 : Int) < _; first | omega | decide)
  | (refine ⟨?_, ?_⟩ <;> first | omega | decide)
  | exact .inr ⟨by decide, by decide⟩
  | exact .inl ⟨by decide, by decide⟩
  | exact .inl ⟨by omega, by omega⟩
  | omega)
local macro_rules | `(tactic| k_clsL) => `(tactic| exact Nat.le_of_ble_eq_true rfl)
local macro_rules | `(tactic| k_upd) => `(tactic| simp only [L2.start, List.map_cons, List.map_nil, List.length_cons, List.length_nil, List.replicate_succ, List.replicate_zero, List.cons_append, List.nil_append, List.set_cons_zero, List.set_cons_succ])
section
variable {P : Program} {w : World} {K : PySem.W.Frag} {mg : Str → Option Value} {base : Heap}
/-! ### pictures -/
def sgC (b : Bool) : Str := if b then Str.ofString "O" else Str.ofString "."
def rowM (M : Pr → Bool) (r c : Int) (w : Nat) : List V := (List.range w).map fun (b : Nat) => V.str (sgC (M (r, c + (b : Int))))
def winS (A : Pr → Bool) (r c : Int) (w : Nat) : Str := Txt.join (Str.ofString "") ((List.range w).map fun (b : Nat) => sgC (A (r, c + (b : Int))))
theorem sgC_len (b : Bool) : (sgC b).length = 1 := by
  cases b <;> decide +kernel
theorem rep_flat (x : V) : ∀ n : Nat, (List.replicate n [x]).flatten = List.replicate n x
  | 0 => rfl
  | n + 1 => by
    rw [List.replicate_succ, List.replicate_succ, List.flatten_cons, rep_flat x n]
    rfl
theorem rowM_none (r c : Int) (w : Nat) : rowM (fun _ => false) r c w = List.replicate w (V.str (Str.ofString ".")) := by
  unfold rowM
  show (List.range w).map (fun _ => V.str (Str.ofString ".")) = _
  rw [List.map_const', List.length_range]
theorem rowM_set {M : Pr → Bool} {r c : Int} {w b : Nat} (hb : b < w) : (rowM M r c w).set b (V.str (Str.ofString "O")) = rowM (fun y => decide (y = (r, c + (b : Int))) || M y) r c w := by
  unfold rowM
  refine List.ext_getElem (by simp) fun j h1 h2 => ?_
  rw [List.getElem_set]
  simp only [List.getElem_map, List.getElem_range]
  by_cases e : b = j
  · subst e
    rw [if_pos rfl, decide_eq_true rfl]
    rfl
  · rw [if_neg e, decide_eq_false]
    · rfl
    · intro z
      have : c + (j : Int) = c + (b : Int) := congrArg Prod.snd z
      omega
theorem least_ex : ∀ {l : List Int}, l ≠ [] → ∃ a, Least a l
  | [], h => absurd rfl h
  | [x], _ => ⟨x, List.mem_cons_self, fun y m => by rw [List.mem_singleton.mp m]; exact Int.le_refl _⟩
  | x :: y :: r, _ => by
    obtain ⟨a, h1, h2⟩ := least_ex (l := y :: r) (by simp)
    by_cases c : x ≤ a
    · refine ⟨x, List.mem_cons_self, fun z m => ?_⟩
      rcases List.mem_cons.mp m with e | m
      · rw [e]
        exact Int.le_refl _
      · have := h2 z m
        omega
    · refine ⟨a, List.mem_cons_of_mem _ h1, fun z m => ?_⟩
      rcases List.mem_cons.mp m with e | m
      · rw [e]
        omega
      · exact h2 z m
/-- the picture of cells at home -/
def picS (qs : List Pr) (h w : Nat) : List Str := (List.range h).map fun (i : Nat) => winS (fun y => decide (y ∈ qs)) (0 + (i : Int)) 0 w
structure Fits (qs : List Pr) (h w : Nat) : Prop where
  h90 : h ≤ 90
  w90 : w ≤ 90
  inn : ∀ y ∈ qs, 0 ≤ y.1 ∧ y.1 < (h : Int) ∧ 0 ≤ y.2 ∧ y.2 < (w : Int)
  lastR : ∃ y ∈ qs, y.1 + 1 = (h : Int)
  lastC : ∃ y ∈ qs, y.2 + 1 = (w : Int)
def sp_picture : Sp := fun vs H Q _ => ∃ (l : Addr) (ps : List Pr), vs = [.ref l] ∧ Cells H l ps ∧ ps.length < 64 ∧ (∀ x ∈ ps, ∀ y ∈ ps, x.1 - y.1 < 90 ∧ x.2 - y.2 < 90) ∧
  (ps = [] → ∀ (H' : Hp) (p : Addr), H p = none → Same H H' → H' p = some (.lst []) → Q (.ref p) H') ∧
  (ps ≠ [] → ∀ (H' : Hp) (p : Addr) (qs : List Pr) (h w : Nat), H p = none → Same H H' → (∀ a b, Least a (rowsP ps) → Least b (colsP ps) → CanP (ps.map (addP (-a) (-b))) qs) → Fits qs h w → H' p = some (.lst ((picS qs h w).map V.str)) → Q (.ref p) H')
theorem ok_picture (T : Txt P K mg) : FnOk P w K mg base CX0 4 T.f_picture T.d_picture ["cells"] sp_picture := by
  refine T.F_picture.ok sc_picture (fun vs H Q E h => ?_) (fun cdv A outer s H vs Q E hr h => ?_)
  · obtain ⟨_, _, rfl, _⟩ := h
    rfl
  · obtain ⟨l, ps, rfl, hC, few, spread, qn, q⟩ := h
    refine ⟨_, (pss_cons (ps_set (i := 1) sc_picture.nd rfl (.inl rfl) (pe_call (ok_home T) (hr.mono (by decide)) (by rfl) T.g_home T.F_home.kp T.b_home .nil pass0 (pa_cons (pv 0) pa_nil)))
      (pss_cons (ps_if (pt_not (pt_truth (pv 1) (by intro _; rfl)))
      (pss_one (ps_ret (pe_lst pa_nil)))
      pss_nil)
      (pss_cons (ps_set (i := 2) sc_picture.nd rfl (.inl rfl) (pe_op op_add (pe_callB (cr_max rfl) (by rfl) T.z_max (by decide +kernel) (pa_cons (pe_lc (own := [("row", 5), ("_", 7)]) (tt := tYes) rfl sc_picture.nd (pi_list (pv 1)) (blkOk_by (own := [("row", 5), ("_", 7)]) (N := N_picture) (sc := defScope s_picture) (by decide +kernel)) (fun _ _ _ _ _ => (pg_tupK (K := K) (n := 2) rfl rfl (pgs_cons (pg_name (i := 5) sc_picture.nd rfl (.inl rfl)) (pgs_cons (pg_name (i := 7) sc_picture.nd rfl (.inl rfl)) pgs_nil)))) (fun _ _ _ _ _ => pts_nil) (fun _ _ _ _ _ => (pv 5))) pa_nil)) pe_int))
      (pss_cons (ps_set (i := 3) sc_picture.nd rfl (.inr rfl) (pe_op op_add (pe_callB (cr_max rfl) (by rfl) T.z_max (by decide +kernel) (pa_cons (pe_lc (own := [("_", 7), ("column", 6)]) (tt := tYes) rfl sc_picture.nd (pi_list (pv 1)) (blkOk_by (own := [("_", 7), ("column", 6)]) (N := N_picture) (sc := defScope s_picture) (by decide +kernel)) (fun _ _ _ _ _ => (pg_tupK (K := K) (n := 2) rfl rfl (pgs_cons (pg_name (i := 7) sc_picture.nd rfl (.inl rfl)) (pgs_cons (pg_name (i := 6) sc_picture.nd rfl (.inl rfl)) pgs_nil)))) (fun _ _ _ _ _ => pts_nil) (fun _ _ _ _ _ => (pv 6))) pa_nil)) pe_int))
      (pss_cons (ps_setLc (i := 4) (own := [("_", 7)]) (g := gName 7) (tt := tYes) rfl sc_picture.nd rfl rfl (sw_true rfl rfl rfl (by decide +kernel)) (pi_range1 (by rfl) T.z_range (pa_cons (pv 2) pa_nil)) (blkOk_by (own := [("_", 7)]) (N := N_picture) (sc := defScope s_picture) (by decide +kernel)) (fun _ _ _ _ _ => pg_name (i := 7) sc_picture.nd rfl (Or.inl rfl)) (fun _ _ _ _ _ => pts_nil) (fun _ _ _ _ _ => (pe_op op_rep (pe_lst (pa_cons (pe_gcx (by rfl) T.c_DEAD) pa_nil)) (pv 3))))
      (pss_cons (ps_for PassesOwn.never rfl (pi_list (pv 1)) (pg_tupK (K := K) (n := 2) rfl rfl (pgs_cons (pg_name (i := 5) sc_picture.nd rfl (.inl rfl)) (pgs_cons (pg_name (i := 6) sc_picture.nd rfl (.inl rfl)) pgs_nil)))
      (pss_one (ps_asg (pe_gcx (by rfl) T.c_ALIVE) (pg_sub (pe_ix ix_list (pv 4) (pv 5) (fun _ _ => rfl)) (pv 6) set_list))))
      (pss_one (ps_ret (pe_lc (own := [("row", 5)]) (g := gName 5) (tt := tYes) rfl sc_picture.nd (pi_list (pv 4)) (blkOk_by (own := [("row", 5)]) (N := N_picture) (sc := defScope s_picture) (by decide +kernel)) (fun _ _ _ _ _ => pg_name (i := 5) sc_picture.nd rfl (Or.inl rfl)) (fun _ _ _ _ _ => pts_nil) (fun _ _ _ _ _ => (pe_joinK (K := K) rfl pe_str (pv 5)))))))))))), ?_⟩
    refine ⟨_, rfl, l, ps, rfl, hC, few, fun H1 p1 qs n1 e1 h1 hnil hcan l1 => ?_⟩
    k_upd
    refine ⟨_, rfl, _, tru_cells h1, ?_⟩
    cases ps with
    | nil =>
      obtain rfl := hnil rfl
      exact ⟨by k_clsL, fun p n => qn rfl _ p (backS e1 n) (e1.trans (newS n)) upd_same⟩
    | cons x0 ps =>
      obtain ⟨a, la⟩ := least_ex (l := rowsP (x0 :: ps)) (by simp [rowsP])
      obtain ⟨b, lb⟩ := least_ex (l := colsP (x0 :: ps)) (by simp [colsP])
      have can := hcan a b la lb
      have inq : ∀ y ∈ qs, 0 ≤ y.1 ∧ y.1 < 90 ∧ 0 ≤ y.2 ∧ y.2 < 90 := fun y m => by
        obtain ⟨x, mx, rfl⟩ := List.mem_map.mp ((can.2 y).mp m)
        have h1 := la.2 x.1 (List.mem_map_of_mem mx)
        have h2 := lb.2 x.2 (List.mem_map_of_mem mx)
        obtain ⟨ya, ma, ea⟩ := List.mem_map.mp la.1
        obtain ⟨yb, mb, eb⟩ := List.mem_map.mp lb.1
        have s1 := (spread x mx ya ma).1
        have s2 := (spread x mx yb mb).2
        show 0 ≤ x.1 + -a ∧ x.1 + -a < 90 ∧ 0 ≤ x.2 + -b ∧ x.2 + -b < 90
        omega
      obtain ⟨y0, ys, ey⟩ : ∃ y0 ys, qs = y0 :: ys := by
        cases qs with
        | nil => exact absurd ((can.2 _).mpr (List.mem_map_of_mem (List.mem_cons_self (a := x0)))) (by simp)
        | cons y0 ys => exact ⟨y0, ys, rfl⟩
      have ie : (!qs.isEmpty) = true := by rw [ey]; rfl
      rw [ie]
      refine iteF ?_
      refine ⟨_, rfl, _, rfl, ⟨_, lst_of h1.choose_spec.1⟩, fun D nD => lc_nums (·.1) h1 nD (lt_line l1) ?_ fun H2 e2 h2 => ?_⟩
      · intro t x H' Po Pn _ ht hq
        exact ⟨t, _, rfl, tup_of ht, rfl, _, _, rfl, _, _, rfl, rfl, rfl, tyesT ⟨_, rfl, hq⟩⟩
      refine ⟨_, _, rfl, lst_of h2, by rw [ey]; simp, fun m1 mm1 lm1 => ?_⟩
      refine ⟨_, _, rfl, rfl, ?_⟩
      obtain ⟨r1, mr1, er1⟩ := List.mem_map.mp mm1
      have ir1 := inq r1 mr1
      obtain ⟨h, eh⟩ := Int.eq_ofNat_of_zero_le (show 0 ≤ m1 + 1 by have : r1.1 = m1 := er1; omega)
      dsimp only
      rw [eh]
      refine gName_go ?_
      k_upd
      have h12 := h1.up e2
      refine ⟨_, rfl, _, rfl, ⟨_, lst_of h12.choose_spec.1⟩, fun D nD => lc_nums (·.2) h12 nD (lt_line l1) ?_ fun H3 e3 h3 => ?_⟩
      · intro t x H' Po Pn _ ht hq
        exact ⟨t, _, rfl, tup_of ht, rfl, _, _, rfl, _, _, rfl, rfl, rfl, tyesT ⟨_, rfl, hq⟩⟩
      refine ⟨_, _, rfl, lst_of h3, by rw [ey]; simp, fun m2 mm2 lm2 => ?_⟩
      refine ⟨_, _, rfl, rfl, ?_⟩
      obtain ⟨r2, mr2, er2⟩ := List.mem_map.mp mm2
      have ir2 := inq r2 mr2
      obtain ⟨wd, ew⟩ := Int.eq_ofNat_of_zero_le (show 0 ≤ m2 + 1 by have : r2.2 = m2 := er2; omega)
      dsimp only
      rw [ew]
      refine gName_go ?_
      k_upd
      have er1 : r1.1 = m1 := er1
      have er2 : r2.2 = m2 := er2
      have fit : Fits qs h wd := ⟨by omega, by omega, fun y m => by
        have := inq y m
        have k1 := lm1 _ (List.mem_map_of_mem (f := (·.1)) m)
        have k2 := lm2 _ (List.mem_map_of_mem (f := (·.2)) m)
        have k1 : y.1 ≤ m1 := k1
        have k2 : y.2 ≤ m2 := k2
        omega, ⟨r1, mr1, by omega⟩, ⟨r2, mr2, by omega⟩⟩
      have h13 := h12.up e3
      have s3 := e1.trans (e2.trans e3)
      refine ⟨_, rfl, _, rfl, by omega, by omega, fun D2 nD2 => lc_range (lo := 0) (n := ((h : Int)).toNat) (fun i H' => Same H3 H' ∧ ∃ rs : List Addr, H' D2 = some (.lst (rs.map V.ref)) ∧ rs.length = i ∧ rs.Nodup ∧ ∀ a ∈ rs, H' a = some (.lst (rowM (fun _ => false) 0 0 wd)) ∧ H3 a = none ∧ a ≠ D2)
        ⟨newS nD2, [], upd_same, rfl, List.nodup_nil, fun _ m => (by cases m)⟩ ?_ ?_⟩
      · rintro i H' hi ⟨sm, rs, g1, lr, nr, ar⟩
        refine ⟨rfl, tyesT ⟨by k_clsL, fun l1 nl1 => ?_⟩⟩
        k_invariant "new" (nl1, H4, e4, g4)
        refine ⟨_, rfl, _, _, _, rfl, rfl, g4, by omega, by omega, by show 1 * _ ≤ _; rw [sizeLine_eq]; omega, fun p2 np2 => ?_⟩
        rw [rep_flat, Int.toNat_natCast, ← rowM_none 0 0 wd]
        k_invariant "new" (np2, H5, e5, g5)
        have g15 := e5 _ _ (e4 _ _ g1)
        have nH1 : H3 p2 = none := backS (sm.trans e4) np2
        have nD : p2 ≠ D2 := fun e => by rw [e, e4 _ _ g1] at np2; cases np2
        refine ⟨_, g15, by rw [List.length_map, sizeLine_eq]; omega, mutS (sm.trans (e4.trans e5)) nD2, rs ++ [p2], by rw [upd_same, List.map_append]; rfl, by rw [List.length_append, lr]; rfl, ?_, fun a m => ?_⟩
        · refine List.pairwise_append.mpr ⟨nr, List.pairwise_cons.mpr ⟨fun _ m => (by cases m), List.Pairwise.nil⟩, fun a ma b mb e => ?_⟩
          rw [List.mem_singleton.mp mb] at e
          have := e4 _ _ (ar a ma).1
          rw [e, np2] at this
          cases this
        · rcases List.mem_append.mp m with m | m
          · obtain ⟨x1, x2, x3⟩ := ar a m
            exact ⟨by rw [upd_ne x3]; exact e5 _ _ (e4 _ _ x1), x2, x3⟩
          · rw [List.mem_singleton.mp m]
            exact ⟨by rw [upd_ne nD]; exact g5, nH1, nD⟩
      · rintro H4 ⟨e4, rs, g2, lr, nr, ar⟩
        rw [Int.toNat_natCast] at lr
        k_upd
        obtain ⟨ws, w1', w2', w3'⟩ := h13.up e4
        have lws : ws.length = qs.length := by rw [← w3', List.length_map]
        have nD2r : D2 ∉ rs := fun m => (ar D2 m).2.2 rfl
        obtain ⟨ts1, t11, _, _⟩ := h13
        have n4r : p1 ∉ rs := fun m => by
          have := (ar p1 m).2.1
          rw [t11] at this
          cases this
        refine ⟨_, rfl, p1, rfl, ⟨_, lst_of w1'⟩, for_list (K := K) (a := p1) (xs := ws.map fun t => V.ref t.1) (fun i σ H' => (∀ b o, b ∉ rs → H4 b = some o → H' b = some o) ∧ (∃ x5 x6 x7 : Option V, σ = [some (.ref l), some (.ref p1), some (.int (h : Int)), some (.int (wd : Int)), some (.ref D2), x5, x6, x7]) ∧
            ∀ (a : Nat) (ad : Addr), rs[a]? = some ad → H' ad = some (.lst (rowM (fun y => decide (y ∈ qs.take i)) (0 + (a : Int)) 0 wd)))
            ⟨fun _ _ _ k => k, ⟨_, _, _, rfl⟩, fun a ad ha => by
              rw [(ar ad (List.mem_of_getElem? ha)).1]
              have e1 := rowM_none 0 0 wd
              have e2 := rowM_none (0 + (a : Int)) 0 wd
              rw [e1]
              have : (fun y : Pr => decide (y ∈ qs.take 0)) = fun _ => false := funext fun y => by simp
              rw [this, e2]⟩ (fun i σ H' _ p => lst_of (p.1 _ _ n4r w1')) ?_ ?_⟩
        · rintro i x σ H' hi ⟨sm, ⟨x5, x6, x7, rfl⟩, hrow⟩
          obtain ⟨t, mt, rfl, hz⟩ := item_cells (H := H') hi rfl
          rw [w3'] at hz
          have htt' := w2' t mt
          have ntr : t.1 ∉ rs := fun m => by rw [(ar t.1 m).1] at htt'; cases htt'
          have ht' := sm _ _ ntr htt'
          obtain ⟨z, ez⟩ : ∃ z, z = t.2 := ⟨_, rfl⟩
          rw [← ez] at hz ht'
          have nxt : ∀ y, decide (y ∈ qs.take (i + 1)) = (decide (y = z) || decide (y ∈ qs.take i)) := fun y => by
            rw [take_next hz, Bool.eq_iff_iff]
            simp [or_comm]
          have iz := fit.inn z (List.mem_of_getElem? hz)
          refine ⟨t.1, _, rfl, tup_of ht', rfl, _, _, rfl, _, _, rfl, rfl, ?_⟩
          k_upd
          obtain ⟨a0, ea0⟩ : ∃ a0 : Nat, z.1 = 0 + (a0 : Int) := ⟨z.1.toNat, by omega⟩
          obtain ⟨b0, eb0⟩ : ∃ b0 : Nat, z.2 = 0 + (b0 : Int) := ⟨z.2.toNat, by omega⟩
          have a0h : a0 < rs.length := by omega
          have b0w : b0 < wd := by omega
          have hra : rs[a0]? = some rs[a0] := List.getElem?_eq_getElem a0h
          have hz0 := hrow a0 _ hra
          have at1 : atI (rs.map V.ref) z.1 = some (.ref rs[a0]) := by
            rw [show z.1 = (a0 : Int) by omega]
            exact atI_nat (by rw [List.getElem?_map, hra]; rfl)
          have ix1 : ixN (rowM (fun y => decide (y ∈ qs.take i)) (0 + (a0 : Int)) 0 wd).length z.2 = some b0 := by
            unfold ixN rowM
            rw [List.length_map, List.length_range, if_pos (by omega), if_pos (by omega)]
            congr 1
            omega
          refine ⟨_, rfl, _, rfl, _, _, _, _, rfl, rfl, lst_of (sm _ _ nD2r g2), at1, _, rfl, _, _, _, _, rfl, rfl, hz0, ix1, ?_⟩
          rw [rowM_set b0w]
          refine ⟨fun b o nb k => ?_, ⟨_, _, _, rfl⟩, fun a ad ha => ?_⟩
          · rw [upd_ne fun e => nb (by rw [e]; exact List.mem_of_getElem? hra)]
            exact sm _ _ nb k
          · by_cases ea : a = a0
            · subst ea
              obtain rfl : ad = rs[a] := Option.some.inj (ha.symm.trans hra)
              rw [upd_same]
              have : (fun y : Pr => decide (y = (0 + (a : Int), 0 + (b0 : Int))) || decide (y ∈ qs.take i)) = fun y => decide (y ∈ qs.take (i + 1)) := funext fun y => by
                rw [nxt]
                have : z = (0 + (a : Int), 0 + (b0 : Int)) := Prod.ext ea0 eb0
                rw [this]
              rw [this]
            · have la := (List.getElem?_eq_some_iff.mp ha).1
              have ead := (List.getElem?_eq_some_iff.mp ha).2
              have nad : ad ≠ rs[a0] := fun e => ea ((List.getElem_inj nr (h₀ := la) (h₁ := a0h)).mp (ead.trans e))
              rw [upd_ne nad, hrow a ad ha]
              have e : rowM (fun y => decide (y ∈ qs.take (i + 1))) (0 + (a : Int)) 0 wd = rowM (fun y => decide (y ∈ qs.take i)) (0 + (a : Int)) 0 wd := by
                unfold rowM
                refine List.map_congr_left fun b mb => ?_
                show V.str (sgC (decide ((0 + (a : Int), 0 + (b : Int)) ∈ qs.take (i + 1)))) = V.str (sgC (decide ((0 + (a : Int), 0 + (b : Int)) ∈ qs.take i)))
                rw [nxt, decide_eq_false (fun e => by
                  have : 0 + (a : Int) = z.1 := congrArg Prod.fst e
                  omega), Bool.false_or]
              rw [e]
        · rintro σ H' ⟨sm, ⟨x5, x6, x7, rfl⟩, hrow⟩
          rw [List.length_map, lws, List.take_length] at hrow
          have g25 := sm _ _ nD2r g2
          refine ⟨_, rfl, _, rfl, ⟨_, lst_of g25⟩, fun L nL => lc_list (K := K) (a := D2) (xs := rs.map V.ref) (fun i H9 => Same H' H9 ∧ H9 L = some (.lst (((picS qs h wd).take i).map V.str)))
            ⟨newS nL, upd_same⟩ (fun i H9 _ p => lst_of (p.1 _ _ g25)) ?_ ?_⟩
          · rintro i x H9 hi ⟨sm9, h9⟩
            rw [List.getElem?_map] at hi
            cases hra : rs[i]? with
            | none => rw [hra] at hi; cases hi
            | some ad =>
              rw [hra] at hi
              obtain rfl : V.ref ad = x := Option.some.inj hi
              have li := (List.getElem?_eq_some_iff.mp hra).1
              have hr9 := sm9 _ _ (hrow i ad hra)
              have erow : rowM (fun y => decide (y ∈ qs)) (0 + (i : Int)) 0 wd = ((List.range wd).map fun (b : Nat) => sgC (decide (((0 + (i : Int), 0 + (b : Int)) : Pr) ∈ qs))).map V.str := by
                unfold rowM
                rw [List.map_map]
                rfl
              rw [erow] at hr9
              have hri : (picS qs h wd)[i]? = some (winS (fun y => decide (y ∈ qs)) (0 + (i : Int)) 0 wd) := by
                unfold picS
                rw [List.getElem?_map, List.getElem?_range (by omega)]
                rfl
              refine ⟨rfl, tyesT ⟨⟨_, rfl⟩, _, rfl, _, _, _, rfl, rfl, .inl (lst_of hr9), ?_, _, h9, ?_, mutS sm9 nL, ?_⟩⟩
              · have : (((List.range wd).map fun (b : Nat) => sgC (decide (((0 + (i : Int), 0 + (b : Int)) : Pr) ∈ qs))).map (·.length)).sum ≤ wd := by
                  rw [List.map_map]
                  have : ((List.range wd).map ((·.length) ∘ fun (b : Nat) => sgC (decide (((0 + (i : Int), 0 + (b : Int)) : Pr) ∈ qs)))) = (List.range wd).map fun _ => 1 := List.map_congr_left fun b _ => sgC_len _
                  rw [this, List.map_const', List.sum_replicate_nat, List.length_range]
                  omega
                rw [show (Str.ofString "").length = 0 by decide +kernel]
                have := fit.w90
                omega
              · rw [List.length_map, List.length_take, sizeLine_eq]
                have := fit.h90
                omega
              · rw [upd_same, take_next hri, List.map_append]
                rfl
          · rintro H9 ⟨sm9, h9⟩
            have lpic : (picS qs h wd).length = h := by
              unfold picS
              rw [List.length_map, List.length_range]
            rw [List.length_map, lr, List.take_of_length_le (by rw [lpic]; exact Nat.le_refl _)] at h9
            have sHH : Same H H' := fun b o k => sm _ _ (fun m => by
              have := s3 _ _ k
              have z := (ar b m).2.1
              rw [z] at this
              cases this) (e4 _ _ (s3 _ _ k))
            exact q (by simp) H9 L qs h wd (backS sHH nL) (sHH.trans sm9) hcan fit h9
end
end My
namespace My
open PySem PySem.Spec PyProof.Rows L2 Vx
open TL
local macro_rules | `(tactic| k_invariant "new" ($n, $H:ident, $e:ident, $h:ident)) => `(tactic| (generalize hE : upd _ _ _ = $H; obtain ⟨$e:ident, $h:ident⟩ := gen_e hE $n; clear hE))
local macro_rules | `(tactic| k_places) => `(tactic| first
  | assumption
  | exact lst_of (by assumption)
  | exact tup_of (by assumption)
  | (refine getS (by assumption) ?_; k_places)
  | (refine Same.seq (by assumption) ?_; k_places)
  | (refine tupS (by assumption) ?_; k_places)
  | (refine lst_of ?_; k_places)
  | (refine tup_of ?_; k_places))
local macro_rules | `(tactic| k_subL) => `(tactic| first
  | k_places
  | solve_by_elim (maxDepth := 10) [getS, lst_of, tup_of, Same.seq, tupS])
local macro_rules | `(tactic| k_offL) => `(tactic| first
  | (show (0 : Int) < _; first | omega | decide)
  | (refine ⟨?_, ?_⟩ <;> first | omega | decide)
  | exact .inr ⟨by decide, by decide⟩
  | exact .inl ⟨by decide, by decide⟩
  | exact .inl ⟨by omega, by omega⟩
  | omega)
local macro_rules | `(tactic| k_clsL) => `(tactic| exact Nat.le_of_ble_eq_true rfl)
local macro_rules | `(tactic| k_upd) => `(tactic| simp only [L2.start, List.map_cons, List.map_nil, List.length_cons, List.length_nil, List.replicate_succ, List.replicate_zero, List.cons_append, List.nil_append, List.set_cons_zero, List.set_cons_succ])
section
variable {P : Program} {w : World} {K : PySem.W.Frag} {mg : Str → Option Value} {base : Heap}
theorem ok_law_cell (T : Txt P K mg) : FnOk P w K mg base CX0 1 T.f_law_cell T.d_law_cell ["script", "k"] (spCell K) := by
  refine T.F_law_cell.ok sc_law_cell (fun vs H Q E h => ?_) (fun cdv A outer s H vs Q E hr h => ?_)
  · obtain ⟨l, ns, j, rfl, _⟩ := h
    rfl
  · obtain ⟨l, ns, j, rfl, hs, q⟩ := h
    refine ⟨_, (pss_cons (ps_if (pt_cmpR op_lt (pv 1) (pe_callB call_lenL (by rfl) T.z_len (by decide +kernel) (pa_cons (pv 0) pa_nil)) (nomark _))
      (pss_one (ps_ret (pe_callTy call_intI (by rfl) T.z_int (by decide +kernel) (pa_cons (pe_ix ix_list (pv 0) (pv 1) (fun _ _ => rfl)) pa_nil))))
      pss_nil)
      (pss_one (ps_ret pe_int))), ?_⟩
    refine ⟨_, rfl, _, rfl, _, _, rfl, hs, _, _, rfl, rfl, _, rfl, ite2 (fun c => ?_) (fun c => ?_)⟩
    · have hj : j < ns.length := by
        have z := of_decide_eq_true c
        rw [List.length_map] at z
        omega
      exact ⟨_, rfl, _, rfl, _, _, _, _, rfl, rfl, hs, atI_cell hj, _, rfl, q⟩
    · have hj : ¬ j < ns.length := fun z => c (decide_eq_true (by rw [List.length_map]; omega))
      rw [cell_out hj] at q
      exact q
/-! ### law_row: so many numbers from 0 to below the bound -/
def sp_law_row : Sp := fun vs H Q _ => ∃ (cell count bound : Int), vs = [.int cell, .int count, .int bound] ∧ 0 ≤ count ∧ count ≤ 100000 ∧ 0 < bound ∧ bound < 1000000000 ∧
  ∀ (H' : Hp) (p : Addr) (xs : List Int), H p = none → Same H H' → H' p = some (.lst (xs.map V.int)) → (xs.length : Int) = count → (∀ x ∈ xs, 0 ≤ x ∧ x < bound) → Q (.ref p) H'
theorem ok_law_row (T : Txt P K mg) : FnOk P w K mg base CX0 1 T.f_law_row T.d_law_row ["cell", "count", "bound"] sp_law_row := by
  refine T.F_law_row.ok sc_law_row (fun vs H Q E h => ?_) (fun cdv A outer s H vs Q E hr h => ?_)
  · obtain ⟨_, _, _, rfl, _⟩ := h
    rfl
  · obtain ⟨cell, count, bound, rfl, c0, c1, b0, b1, q⟩ := h
    refine ⟨_, (pss_cons (ps_set (i := 3) sc_law_row.nd rfl (.inl rfl) (pe_callB call_abs (by rfl) T.z_abs (by decide +kernel) (pa_cons (pe_callTy call_intI (by rfl) T.z_int (by decide +kernel) (pa_cons (pv 0) pa_nil)) pa_nil)))
      (pss_cons (ps_set (i := 4) sc_law_row.nd rfl (.inl rfl) (pe_op op_add (pe_op op_mod (pe_callTy call_intI (by rfl) T.z_int (by decide +kernel) (pa_cons (pv 0) pa_nil)) pe_int) pe_int))
      (pss_cons (ps_set (i := 5) sc_law_row.nd rfl (.inl rfl) (pe_lst pa_nil))
      (pss_cons (ps_for PassesOwn.never rfl (pi_range1 (by rfl) T.z_range (pa_cons (pv 1) pa_nil)) (pg_name (i := 6) sc_law_row.nd rfl (.inl rfl))
      (pss_one (ps_if (pt_cmpR op_ge (pv 3) (pv 2) (nomark _))
      (pss_cons (ps_expr (pe_bm PySem.F.plainAttrs_list PySem.F.slot_list_append PySem.F.type_list_append mt_append (pv 5) (pa_cons (pe_op op_mod (pe_callTy call_intI (by rfl) T.z_int (by decide +kernel) (pa_cons (pv 3) pa_nil)) (pv 2)) pa_nil)))
      (pss_one (ps_set (i := 3) sc_law_row.nd rfl (.inl rfl) (pe_op op_fdiv (pv 3) (pv 2)))))
      (pss_cons (ps_set (i := 4) sc_law_row.nd rfl (.inl rfl) (pe_op op_mod (pe_callTy call_intI (by rfl) T.z_int (by decide +kernel) (pa_cons (pe_op op_add (pe_op op_add (pe_op op_mul (pv 4) pe_int) (pe_op op_mul pe_int (pv 6))) pe_int) pa_nil)) pe_int))
      (pss_one (ps_expr (pe_bm PySem.F.plainAttrs_list PySem.F.slot_list_append PySem.F.type_list_append mt_append (pv 5) (pa_cons (pe_op op_mod (pe_callTy call_intI (by rfl) T.z_int (by decide +kernel) (pa_cons (pe_op op_fdiv (pe_op op_mul (pv 4) pe_int) pe_int) pa_nil)) (pv 2)) pa_nil))))))))
      (pss_one (ps_ret (pv 5))))))), ?_⟩
    refine ⟨_, rfl, _, rfl, _, rfl, _, rfl, _, rfl, _, _, rfl, rfl, (by k_offL), _, _, rfl, rfl, Nat.zero_le _, fun p1 n1 => ?_⟩
    k_invariant "new" (n1, H1, e1, h1)
    refine ⟨_, rfl, _, rfl, by omega, by omega, for_range (lo := 0) (n := count.toNat) (fun i σ H' => ∃ (rest mixed : Int) (xs : List Int) (v : Option V), σ = [some (.int cell), some (.int count), some (.int bound), some (.int rest), some (.int mixed), some (.ref p1), v] ∧
      Same H H' ∧ H' p1 = some (.lst (xs.map V.int)) ∧ xs.length = i ∧ (∀ x ∈ xs, 0 ≤ x ∧ x < bound) ∧ 0 ≤ mixed ∧ mixed < 4294967296) ?_ ?_ ?_⟩
    · refine ⟨_, _, [], none, rfl, e1, h1, rfl, by simp, ?_, ?_⟩
      · have := Int.emod_nonneg cell (show (1000003 : Int) ≠ 0 by decide)
        omega
      · have := Int.emod_lt_of_pos cell (show (0 : Int) < 1000003 by decide)
        omega
    · rintro i σ H' hi ⟨rest, mixed, xs, v, rfl, sm, hp, hl, hx, m0, m1⟩
      refine ⟨_, rfl, _, rfl, _, _, rfl, rfl, _, rfl, ite2 (fun c => ?_) (fun c => ?_)⟩
      · refine ⟨_, rfl, .inl ⟨rfl, _, lst_of hp⟩, _, rfl, _, rfl, _, rfl, _, _, rfl, rfl, b0, _, _, _, rfl, rfl, hp, ?_, ?_⟩
        · rw [List.length_map]
          exact Nat.lt_of_lt_of_le (show xs.length < 100001 by omega) (by decide)
        · refine ⟨_, rfl, _, rfl, _, _, rfl, rfl, ⟨b0, by omega⟩, _, _, xs ++ [rest % bound], _, rfl, mutS sm n1, ?_, by simp [hl], fun x h => ?_, m0, m1⟩
          · rw [upd_same]
            simp
          · rcases List.mem_append.mp h with h | h
            · exact hx x h
            · rw [List.mem_singleton.mp h]
              exact ⟨Int.emod_nonneg _ (by omega), Int.emod_lt_of_pos _ b0⟩
      · refine ⟨_, rfl, _, _, rfl, rfl, .inr ⟨by decide, by decide⟩, _, rfl, _, _, rfl, rfl, .inl ⟨by decide, by decide⟩, _, _, rfl, rfl, _, _, rfl, rfl, _, rfl, _, _, rfl, rfl, (by k_offL), ?_⟩
        refine ⟨_, rfl, .inl ⟨rfl, _, lst_of hp⟩, _, rfl, _, _, rfl, rfl, .inr ⟨by decide, by decide⟩, _, _, rfl, rfl, ⟨by decide, by decide⟩, _, rfl, _, rfl, _, _, rfl, rfl, b0, _, _, _, rfl, rfl, hp, ?_, ?_⟩
        · rw [List.length_map]
          exact Nat.lt_of_lt_of_le (show xs.length < 100001 by omega) (by decide)
        · refine ⟨_, _, xs ++ [(mixed * 48271 + 11 * (0 + (i : Int)) + 7) % 2147483647 * 2862933555777941757 / 1024 % bound], _, rfl, mutS sm n1, ?_, by simp [hl], fun x h => ?_, Int.emod_nonneg _ (by decide), ?_⟩
          · rw [upd_same, List.map_append]
            rfl
          · rcases List.mem_append.mp h with h | h
            · exact hx x h
            · rw [List.mem_singleton.mp h]
              exact ⟨Int.emod_nonneg _ (by omega), Int.emod_lt_of_pos _ b0⟩
          · exact Int.lt_trans (Int.emod_lt_of_pos _ (by decide)) (by decide)
    · rintro σ H' ⟨rest, mixed, xs, v, rfl, sm, hp, hl, hx, _, _⟩
      exact ⟨_, rfl, q H' p1 xs n1 sm hp (by omega) hx⟩
/-! ### law_some: some cells of a box, ascending -/
def sp_law_some : Sp := fun vs H Q _ => ∃ (cell count h v : Int), vs = [.int cell, .int count, .int h, .int v] ∧ 0 ≤ count ∧ count ≤ 1000 ∧ 0 < h ∧ h ≤ 1000 ∧ 0 < v ∧ v ≤ 1000 ∧
  ∀ (H' : Hp) (p : Addr) (ps : List Pr), H p = none → Same H H' → Cells H' p ps → ps.Pairwise ltP → (ps.length : Int) ≤ count → (∀ x ∈ ps, 0 ≤ x.1 ∧ x.1 < h ∧ 0 ≤ x.2 ∧ x.2 < v) → Q (.ref p) H'
theorem ok_law_some (T : Txt P K mg) : FnOk P w K mg base CX0 2 T.f_law_some T.d_law_some ["cell", "count", "height", "width"] sp_law_some := by
  refine T.F_law_some.ok sc_law_some (fun vs H Q E h => ?_) (fun cdv A outer s H vs Q E hr h => ?_)
  · obtain ⟨_, _, _, _, rfl, _⟩ := h
    rfl
  · obtain ⟨cell, count, h, v, rfl, c0, c1, h0, h1, v0, v1, q⟩ := h
    have hu : (A.deeper (envOfC (Str.ofString "_law_some") (defScope s_law_some) s.heap.objs.size T.f_law_some cdv)).units + 1 < cLine := by
      have := hr.units
      omega
    refine ⟨_, (pss_cons (ps_set (i := 4) sc_law_some.nd rfl (.inl rfl) (pe_callB call_abs (by rfl) T.z_abs (by decide +kernel) (pa_cons (pe_callTy call_intI (by rfl) T.z_int (by decide +kernel) (pa_cons (pv 0) pa_nil)) pa_nil)))
      (pss_cons (ps_set (i := 5) sc_law_some.nd rfl (.inl rfl) pe_dnewT)
      (pss_cons (ps_for PassesOwn.never rfl (pi_list (pe_call (ok_law_row T) (hr.mono (by decide)) (by rfl) T.g_law_row T.F_law_row.kp T.b_law_row .nil pass0 (pa_cons (pv 0) (pa_cons (pv 1) (pa_cons (pe_op op_mul (pv 2) (pv 3)) pa_nil))))) (pg_name (i := 6) sc_law_some.nd rfl (.inl rfl))
      (pss_one (ps_dput hu (pv 5) (pe_tup (pa_cons (pe_op op_fdiv (pv 6) (pv 3)) (pa_cons (pe_op op_mod (pv 6) (pv 3)) pa_nil))) pe_bl rfl)))
      (pss_one (ps_ret (pe_callB cr_sortedC (by rfl) T.z_sorted (by decide +kernel) (pa_cons (pe_lock (pe_lc (own := [("place", 7)]) (g := gName 7) (tt := tYes) rfl sc_law_some.nd (pi_keys (pv 5)) (blkOk_by (own := [("place", 7)]) (N := N_law_some) (sc := defScope s_law_some) (by decide +kernel)) (fun _ _ _ _ _ => pg_name (i := 7) sc_law_some.nd rfl (Or.inl rfl)) (fun _ _ _ _ _ => pts_nil) (fun _ _ _ _ _ => (pv 7)))) pa_nil))))))), ?_⟩
    have b0 : 0 < h * v := Int.mul_pos h0 v0
    have b1 : h * v < 1000000000 := by
      have := Int.mul_le_mul h1 v1 (by omega) (by decide)
      omega
    refine ⟨_, rfl, _, rfl, _, rfl, fun d nd => ?_⟩
    k_invariant "new" (nd, H1, e1, g1)
    refine ⟨_, rfl, _, rfl, _, rfl, _, rfl, _, _, rfl, rfl, (by k_offL), _, _, _, rfl, c0, by omega, b0, b1, fun H2 p2 xs n2 e2 g2 l2 m2 => ?_⟩
    have nd2 : d ≠ p2 := neS g1 (fun _ _ z => z) n2
    refine ⟨p2, rfl, ⟨_, lst_of g2⟩, for_list (K := K) (a := p2) (xs := xs.map V.int) (fun i σ H' => Same H H' ∧ H' p2 = some (.lst (xs.map V.int)) ∧ (∃ (x y z : Option V), σ = [some (.int cell), some (.int count), some (.int h), some (.int v), x, some (.ref d), y, z]) ∧ ∃ kvs ps, H' d = some (.dT kvs) ∧ KeysP kvs ps ∧ ps.length ≤ i ∧ ∀ x ∈ ps, 0 ≤ x.1 ∧ x.1 < h ∧ 0 ≤ x.2 ∧ x.2 < v)
      ⟨e1.trans e2, g2, ⟨_, _, _, rfl⟩, [], [], e2 _ _ g1, ⟨rfl, List.nodup_nil⟩, Nat.le_refl _, fun _ m => (by cases m)⟩ (fun i σ H' _ p => lst_of p.2.1) ?_ ?_⟩
    · rintro i z σ H' hi ⟨sm, gp, ⟨x, y, z1, rfl⟩, kvs, ps, gd, hK, lp, bd⟩
      obtain ⟨n, rfl, _, mn⟩ := item_ints hi
      have bn := m2 n mn
      have li := (List.getElem?_eq_some_iff.mp hi).1
      rw [List.length_map] at li
      refine ⟨_, rfl, _, rfl, _, rfl, _, _, rfl, rfl, ⟨v0, by omega⟩, _, rfl, _, rfl, _, _, rfl, rfl, v0, (by k_clsL), fun t nt => ?_⟩
      have ntd : t ≠ d := fun e => by
        rw [e, gd] at nt
        cases nt
      have ntp : p2 ≠ d := fun e => by
        rw [e, gd] at gp
        cases gp
      obtain ⟨qs, hQ, lq, mq⟩ := hK.put (n / v, n % v) (.bl true)
      refine ⟨d, _, rfl, DPut.t (k := keyP (n / v, n % v)) (newS nt _ _ gd) upd_same (by rw [hK.len, sizeLine_eq]; omega), mutS (sm.trans (newS nt)) nd, ?_, ⟨_, _, _, rfl⟩, _, qs, upd_same, hQ, by omega, fun x m => ?_⟩
      · rw [upd_ne ntp]
        exact newS nt _ _ gp
      · rcases (mq x).mp m with m | e
        · exact bd x m
        · rw [e]
          exact ⟨Int.ediv_nonneg bn.1 (by omega), Int.ediv_lt_of_lt_mul v0 bn.2, Int.emod_nonneg _ (by omega), Int.emod_lt_of_pos _ v0⟩
    · rintro σ H' ⟨sm, gp, ⟨x, y, z1, rfl⟩, kvs, ps, gd, hK, lp, bd⟩
      rw [List.length_map] at lp
      refine ⟨d, _, gd, trivial, fun od => ⟨_, rfl, d, od, rfl, .inr ⟨kvs, upd_same, fun D nD => lc_keysP hK upd_same nD (by rw [sizeLine_eq]; omega) ?_ fun H3 e3 g3 => ?_⟩⟩⟩
      · intro t x H' Po Pn ht hq
        exact ⟨rfl, tyesT ⟨_, rfl, hq⟩⟩
      · have gd3 : H3 d = some (.frz od (.dT kvs)) := e3 _ _ upd_same
        have s3 : Same H (upd H3 d (.dT kvs)) := mutS ((mutS sm nd).trans e3) nd
        have neD : D ≠ d := fun e => by
          rw [e, upd_same] at nD
          cases nD
        refine ⟨gd3, D, ps, rfl, g3.mut neD (fun xs e => ?_), hK.2, fun p H4 qs e4 n4 h4 c4 l4 => q H4 p qs (backS s3 n4) (s3.trans e4) h4 c4.1 (by omega) fun x m => bd x ((c4.2 x).mp m)⟩
        rw [gd3] at e
        cases e
/-! ### what the law says of an answer -/
def sp_law_integer : Sp := fun vs H Q _ => ∃ i : Int, vs = [.int i] ∧ Q (.bl true) H
theorem ok_law_integer (T : Txt P K mg) : FnOk P w K mg base CX0 1 T.f_law_integer T.d_law_integer ["value"] sp_law_integer := by
  refine T.F_law_integer.ok sc_law_integer (fun vs H Q E h => ?_) (fun cdv A outer s H vs Q E hr h => ?_)
  · obtain ⟨_, rfl, _⟩ := h
    rfl
  · obtain ⟨i, rfl, q⟩ := h
    refine ⟨_, (pss_one (ps_ret (pe_and (pe_callB call_isi (by rfl) T.z_isinstance (by decide +kernel) (pa_cons (pv 0) (pa_cons (pe_bltn (v := .ty "int") (by rfl) T.z_int (by decide +kernel) rfl) pa_nil))) (pe_one (pe_not (pe_callB call_isi (by rfl) T.z_isinstance (by decide +kernel) (pa_cons (pv 0) (pa_cons (pe_bltn (v := .ty "bool") (by rfl) T.z_bool (by decide +kernel) rfl) pa_nil)))))))), ?_⟩
    exact ⟨_, rfl, _, _, _, _, _, rfl, .ty _, .base (.int _), rfl, _, rfl, _, rfl, _, _, _, _, _, rfl, .ty _, .base (.int _), rfl, _, rfl, q⟩
def sp_law_cells : Sp := fun vs H Q _ => ∃ (l : Addr) (ps : List Pr), vs = [.ref l] ∧ Cells H l ps ∧ ps.Pairwise ltP ∧ ∀ H', Same H H' → Q (.bl true) H'
theorem ok_law_cells (T : Txt P K mg) : FnOk P w K mg base CX0 2 T.f_law_cells T.d_law_cells ["value"] sp_law_cells := by
  refine T.F_law_cells.ok sc_law_cells (fun vs H Q E h => ?_) (fun cdv A outer s H vs Q E hr h => ?_)
  · obtain ⟨_, _, rfl, _⟩ := h
    rfl
  · obtain ⟨l, ps, rfl, hC, pw, q⟩ := h
    refine ⟨_, (pss_cons (ps_if (pt_not (pt_val (pe_callB call_isi (by rfl) T.z_isinstance (by decide +kernel) (pa_cons (pv 0) (pa_cons (pe_bltn (v := .ty "list") (by rfl) T.z_list (by decide +kernel) rfl) pa_nil)))))
      (pss_one (ps_ret pe_bl))
      pss_nil)
      (pss_cons (ps_for PassesOwn.never rfl (pi_list (pv 0)) (pg_name (i := 1) sc_law_cells.nd rfl (.inl rfl))
      (pss_one (ps_if (PW.pt (pw_or (pt_not (pt_val (pe_callB call_isi (by rfl) T.z_isinstance (by decide +kernel) (pa_cons (pv 1) (pa_cons (pe_bltn (v := .ty "tuple") (by rfl) T.z_tuple (by decide +kernel) rfl) pa_nil))))) (pw_or (pt_cmpR op_ne (pe_callB call_lenU (by rfl) T.z_len (by decide +kernel) (pa_cons (pv 1) pa_nil)) pe_int (nomark _)) (pw_or (pt_not (pt_val (pe_call (ok_law_integer T) (hr.mono (by decide)) (by rfl) T.g_law_integer T.F_law_integer.kp T.b_law_integer .nil pass0 (pa_cons (pe_ix (ix_tupK (K := K) rfl) (pv 1) pe_int (fun _ _ => rfl)) pa_nil)))) (pw_or1 (pt_not (pt_val (pe_call (ok_law_integer T) (hr.mono (by decide)) (by rfl) T.g_law_integer T.F_law_integer.kp T.b_law_integer .nil pass0 (pa_cons (pe_ix (ix_tupK (K := K) rfl) (pv 1) pe_int (fun _ _ => rfl)) pa_nil)))))))))
      (pss_one (ps_ret pe_bl))
      pss_nil)))
      (pss_one (ps_ret (pe_cmpR (op_eqD hr.units) (pv 0) (pe_callB cr_sortedC (by rfl) T.z_sorted (by decide +kernel) (pa_cons (pv 0) pa_nil)) (nomark _)))))), ?_⟩
    obtain ⟨ts, hl, ht, rfl⟩ := id hC
    refine ⟨_, rfl, _, _, _, _, _, rfl, .ty _, .base (.lst hl), rfl, ?_⟩
    refine ⟨_, rfl, _, rfl, l, rfl, ⟨_, lst_of hl⟩, for_list (K := K) (a := l) (xs := ts.map fun t => V.ref t.1) (fun i σ H' => H' = H ∧ ∃ v : Option V, σ = [some (.ref l), v]) ⟨rfl, _, rfl⟩ (fun i σ H' _ p => by rw [p.1]; exact lst_of hl) ?_ ?_⟩
    · rintro i x σ H' hi ⟨rfl, v, rfl⟩
      obtain ⟨t, mt, rfl, _⟩ := item_cells (H := H') hi rfl
      have g := ht t mt
      refine ⟨_, rfl, _, _, _, _, _, rfl, .ty _, .base (.tup g), rfl, ?_⟩
      refine ⟨_, rfl, _, rfl, _, _, rfl, tup_of g, rfl, _, rfl, iteF ?_⟩
      refine ⟨_, rfl, _, _, _, _, rfl, rfl, tup_of g, rfl, _, rfl, _, rfl, iteF ?_⟩
      refine ⟨_, rfl, _, _, _, _, rfl, rfl, tup_of g, rfl, _, rfl, _, rfl, iteF ?_⟩
      exact ⟨rfl, _, rfl⟩
    · rintro σ H' ⟨rfl, v, rfl⟩
      refine ⟨_, rfl, _, rfl, _, _, rfl, hC, nodup_lt pw, fun p H1 qs e1 n1 h1 c1 l1 => ⟨_, _, dp_cells (hC.up e1), dp_cells h1, shaped_cells _, shaped_cells _, ?_⟩⟩
      rw [eqv_cells, canP_eq c1 pw fun _ => Iff.rfl, decide_eq_true rfl]
      exact q H1 e1
end
end My
namespace My
open PySem PySem.Spec PyProof.Rows L2 Vx
open TL
local macro_rules | `(tactic| k_invariant "new" ($n, $H:ident, $e:ident, $h:ident)) => `(tactic| (generalize hE : upd _ _ _ = $H; obtain ⟨$e:ident, $h:ident⟩ := gen_e hE $n; clear hE))
local macro_rules | `(tactic| k_places) => `(tactic| first
  | assumption
  | exact lst_of (by assumption)
  | exact tup_of (by assumption)
  | (refine getS (by assumption) ?_; k_places)
  | (refine Same.seq (by assumption) ?_; k_places)
  | (refine tupS (by assumption) ?_; k_places)
  | (refine lst_of ?_; k_places)
  | (refine tup_of ?_; k_places))
local macro_rules | `(tactic| k_subL) => `(tactic| first
  | k_places
  | solve_by_elim (maxDepth := 10) [getS, lst_of, tup_of, Same.seq, tupS])
local macro_rules | `(tactic| k_offL) => `(tactic| first
  | (show (0 : Int) < _; first | omega | decide)
  | (refine ⟨?_, ?_⟩ <;> first | omega | decide)
  | exact .inr ⟨by decide, by decide⟩
  | exact .inl ⟨by decide, by decide⟩
  | exact .inl ⟨by omega, by omega⟩
  | omega)
local macro_rules | `(tactic| k_clsL) => `(tactic| exact Nat.le_of_ble_eq_true rfl)
local macro_rules | `(tactic| k_upd) => `(tactic| simp only [L2.start, List.map_cons, List.map_nil, List.length_cons, List.length_nil, List.replicate_succ, List.replicate_zero, List.cons_append, List.nil_append, List.set_cons_zero, List.set_cons_succ])
section
variable {P : Program} {w : World} {K : PySem.W.Frag} {mg : Str → Option Value} {base : Heap}
/-! ### what a picture shows -/
theorem joinL_e : ∀ ps : List (List Nat), joinL [] ps = ps.flatten
  | [] => rfl
  | [p] => by simp [joinL]
  | p :: q :: r => by
    show p ++ ([] ++ joinL [] (q :: r)) = _
    rw [joinL_e (q :: r)]
    rfl
theorem depAll_of : ∀ {l : List PyData} {n : Nat}, (∀ d ∈ l, d.depth ≤ n) → PyData.depthAll l ≤ n
  | [], n, _ => Nat.zero_le n
  | d :: l, n, h => by
    show max d.depth (PyData.depthAll l) ≤ n
    exact Nat.max_le.mpr ⟨h d List.mem_cons_self, depAll_of fun e m => h e (List.mem_cons_of_mem _ m)⟩
theorem canAll_of : ∀ {l : List PyData}, (∀ d ∈ l, d.canLay0 = true) → PyData.canLayAll0 l = true
  | [], _ => rfl
  | d :: l, h => by
    show (d.canLay0 && PyData.canLayAll0 l) = true
    rw [h d List.mem_cons_self, canAll_of fun e m => h e (List.mem_cons_of_mem _ m)]
    rfl
theorem winS_ok (A : Pr → Bool) (r c : Int) (w : Nat) : PyData.strOk (winS A r c w) = true := by
  have cs : ∀ d ∈ tl (winS A r c w), d < 128 := fun d m => by
    unfold winS at m
    rw [join_eq, tl_join, show tl (Str.ofString "") = [] by decide +kernel, joinL_e] at m
    obtain ⟨l, ml, mx⟩ := List.mem_flatten.mp m
    obtain ⟨y, my, rfl⟩ := List.mem_map.mp ml
    obtain ⟨b, _, rfl⟩ := List.mem_map.mp my
    cases hb : A (r, c + (b : Int)) with
    | true =>
      rw [hb] at mx
      have : tl (sgC true) = [79] := by decide +kernel
      rw [this] at mx
      rw [List.mem_singleton.mp mx]
      decide
    | false =>
      rw [hb] at mx
      have : tl (sgC false) = [46] := by decide +kernel
      rw [this] at mx
      rw [List.mem_singleton.mp mx]
      decide
  unfold PyData.strOk
  rw [Array.all_eq_true']
  intro d m
  have := cs d (by show d ∈ (winS A r c w).cps.toList; exact Array.mem_toList_iff.mpr m)
  simp
  omega
theorem dpAll_strs {K : PySem.W.Frag} {H : Hp} : ∀ T : List Str, DpAll K H (T.map V.str) (T.map PyData.str)
  | [] => .nil
  | t :: T => .cons (.str t) (dpAll_strs T)
theorem shaped_strs {T : List Str} (h : ∀ t ∈ T, PyData.strOk t = true) : SeqAt.shaped (.list (T.map PyData.str)) = true := by
  have h1 : PyData.depthAll (T.map PyData.str) ≤ 10 := depAll_of fun d m => by
    obtain ⟨x, _, rfl⟩ := List.mem_map.mp m
    exact Nat.le_of_ble_eq_true rfl
  have h2 : PyData.canLayAll0 (T.map PyData.str) = true := canAll_of fun d m => by
    obtain ⟨x, mx, rfl⟩ := List.mem_map.mp m
    simp [PyData.canLay0, h x mx]
  unfold SeqAt.shaped
  simp [PyData.canLay0, PyData.depth, h2]
  omega
theorem tl_winS (A : Pr → Bool) (r c : Int) (w : Nat) : tl (winS A r c w) = (List.range w).map fun (b : Nat) => if A (r, c + (b : Int)) = true then 79 else 46 := by
  unfold winS
  rw [join_eq, tl_join, show tl (Str.ofString "") = [] by decide +kernel, joinL_e, List.map_map]
  have h : ∀ b : Nat, (tl ∘ fun (b : Nat) => sgC (A (r, c + (b : Int)))) b = [if A (r, c + (b : Int)) = true then 79 else 46] := fun b => by
    show tl (sgC (A (r, c + (b : Int)))) = _
    cases A (r, c + (b : Int)) with
    | true => exact (show tl (sgC true) = [79] by decide +kernel)
    | false => exact (show tl (sgC false) = [46] by decide +kernel)
  rw [List.map_congr_left fun b _ => h b]
  generalize List.range w = l
  induction l with
  | nil => rfl
  | cons b l ih =>
    rw [List.map_cons, List.flatten_cons, ih]
    rfl
theorem faultP_none {zs : List Str} {w : Nat} (h : ∀ (i : Nat) (z : Str), zs[i]? = some z → faultF w (tl z) = none) : ∀ n, faultP zs w n = none
  | 0 => rfl
  | n + 1 => by
    show (match faultP zs w n with | some x => some x | none => _) = none
    rw [faultP_none h n]
    show (match zs[n]? with | some z => _ | none => none) = none
    cases e : zs[n]? with
    | none => rfl
    | some z =>
      show (faultF w (tl z)).map _ = none
      rw [h n z e]
      rfl
theorem liveK_mem {r : Int} {cs : List Nat} {n : Nat} {x : Pr} : x ∈ liveK r cs n ↔ x.1 = r ∧ 0 ≤ x.2 ∧ x.2 < (n : Int) ∧ cs[x.2.toNat]? = some 79 := by
  unfold liveK
  rw [List.mem_map]
  constructor
  · rintro ⟨k, m, rfl⟩
    obtain ⟨m1, m2⟩ := List.mem_filter.mp m
    have := List.mem_range.mp m1
    exact ⟨rfl, by dsimp only; omega, by dsimp only; omega, of_decide_eq_true m2⟩
  · rintro ⟨h1, h2, h3, h4⟩
    refine ⟨x.2.toNat, List.mem_filter.mpr ⟨List.mem_range.mpr (by omega), decide_eq_true h4⟩, Prod.ext h1.symm ?_⟩
    show ((x.2.toNat : Nat) : Int) = x.2
    omega
theorem liveK_asc (r : Int) (cs : List Nat) : ∀ n, (liveK r cs n).Pairwise ltP
  | 0 => List.Pairwise.nil
  | n + 1 => by
    rw [liveK_succ]
    refine List.pairwise_append.mpr ⟨liveK_asc r cs n, ?_, fun x mx y my => ?_⟩
    · split
      · exact List.pairwise_cons.mpr ⟨fun _ m => (by cases m), List.Pairwise.nil⟩
      · exact List.Pairwise.nil
    · obtain ⟨h1, _, h3, _⟩ := liveK_mem.mp mx
      split at my
      · rw [List.mem_singleton.mp my]
        exact ltP_iff.mpr (.inr ⟨h1, h3⟩)
      · cases my
theorem liveT_mem {zs : List Str} {x : Pr} : ∀ {n : Nat}, x ∈ liveT zs n ↔ 0 ≤ x.1 ∧ x.1 < (n : Int) ∧ ∃ z, zs[x.1.toNat]? = some z ∧ x ∈ liveK x.1 (tl z) (tl z).length
  | 0 => ⟨fun m => (by cases m), fun ⟨h1, h2, _⟩ => by omega⟩
  | n + 1 => by
    show x ∈ liveT zs n ++ (match zs[n]? with | some z => liveK (n : Int) (tl z) (tl z).length | none => []) ↔ _
    rw [List.mem_append, liveT_mem (n := n)]
    constructor
    · rintro (⟨h1, h2, h3⟩ | m)
      · exact ⟨h1, by omega, h3⟩
      · cases e : zs[n]? with
        | none => rw [e] at m; cases m
        | some z =>
          rw [e] at m
          have m : x ∈ liveK (n : Int) (tl z) (tl z).length := m
          have h1 := (liveK_mem.mp m).1
          refine ⟨by omega, by omega, z, ?_, by rw [h1]; exact m⟩
          rw [h1]
          exact e
    · rintro ⟨h1, h2, z, hz, m⟩
      by_cases c : x.1 < (n : Int)
      · exact .inl ⟨h1, c, z, hz, m⟩
      · have e : x.1 = (n : Int) := by omega
        rw [e] at hz m
        have hz : zs[n]? = some z := hz
        right
        rw [hz]
        exact m
theorem liveT_asc (zs : List Str) : ∀ n, (liveT zs n).Pairwise ltP
  | 0 => List.Pairwise.nil
  | n + 1 => by
    show (liveT zs n ++ (match zs[n]? with | some z => liveK (n : Int) (tl z) (tl z).length | none => [])).Pairwise ltP
    refine List.pairwise_append.mpr ⟨liveT_asc zs n, ?_, fun x mx y my => ?_⟩
    · cases zs[n]? with
      | none => exact List.Pairwise.nil
      | some z => exact liveK_asc _ _ _
    · obtain ⟨_, h2, _⟩ := liveT_mem.mp mx
      cases e : zs[n]? with
      | none => rw [e] at my; cases my
      | some z =>
        rw [e] at my
        have h1 := (liveK_mem.mp my).1
        exact ltP_iff.mpr (.inl (by omega))
theorem picS_len (qs : List Pr) (h w : Nat) : (picS qs h w).length = h := by
  unfold picS
  rw [List.length_map, List.length_range]
theorem picS_at {qs : List Pr} {h w i : Nat} (hi : i < h) : (picS qs h w)[i]? = some (winS (fun y => decide (y ∈ qs)) (0 + (i : Int)) 0 w) := by
  unfold picS
  rw [List.getElem?_map, List.getElem?_range hi]
  rfl
theorem picS_ok {qs : List Pr} {h w : Nat} : ∀ z ∈ picS qs h w, PyData.strOk z = true ∧ z.cps.size = w := fun z m => by
  unfold picS at m
  obtain ⟨i, _, rfl⟩ := List.mem_map.mp m
  refine ⟨winS_ok _ _ _ _, ?_⟩
  show (tl (winS (fun y => decide (y ∈ qs)) (0 + (i : Int)) 0 w)).length = w
  rw [tl_winS, List.length_map, List.length_range]
/-- a picture is read as it was drawn -/
theorem picS_read {qs : List Pr} {h w : Nat} (f : Fits qs h w) (asc : qs.Pairwise ltP) : faultP (picS qs h w) (widthP (picS qs h w)) (picS qs h w).length = none ∧ liveT (picS qs h w) (picS qs h w).length = qs := by
  have at1 : ∀ {i : Nat} {z : Str}, (picS qs h w)[i]? = some z → i < h ∧ z = winS (fun y => decide (y ∈ qs)) (0 + (i : Int)) 0 w := fun {i z} e => by
    have hi : i < h := by
      have := (List.getElem?_eq_some_iff.mp e).1
      rwa [picS_len] at this
    rw [picS_at hi] at e
    exact ⟨hi, (Option.some.inj e).symm⟩
  have h1 : 1 ≤ h := by
    obtain ⟨y, my, _⟩ := f.lastR
    have := f.inn y my
    omega
  have ew : widthP (picS qs h w) = w := by
    have e0 := picS_at (qs := qs) (w := w) h1
    cases ep : picS qs h w with
    | nil => rw [ep] at e0; cases e0
    | cons z zs =>
      have := (picS_ok z (by rw [ep]; exact List.mem_cons_self)).2
      exact this
  constructor
  · refine faultP_none (fun i z e => ?_) _
    obtain ⟨hi, rfl⟩ := at1 e
    rw [fault_ok fun j c hj hc => ?_, ew]
    · rw [tl_winS, List.length_map, List.length_range, if_pos rfl]
    · rw [tl_winS] at hc
      obtain ⟨b, _, rfl⟩ := List.mem_map.mp (List.mem_of_getElem? hc)
      split <;> decide
  · refine ascP_eq (liveT_asc _ _) asc fun x => ?_
    rw [liveT_mem, picS_len]
    constructor
    · rintro ⟨h1, h2, z, hz, m⟩
      obtain ⟨hi, rfl⟩ := at1 hz
      obtain ⟨_, k1, k2, k3⟩ := liveK_mem.mp m
      rw [tl_winS, List.length_map, List.length_range] at k2
      rw [tl_winS, List.getElem?_map, List.getElem?_range (by omega)] at k3
      have k3 := Option.some.inj k3
      refine Classical.byContradiction fun no => ?_
      have ex : ((0 + ((x.1.toNat : Nat) : Int), 0 + ((x.2.toNat : Nat) : Int)) : Pr) = x := Prod.ext (by show 0 + ((x.1.toNat : Nat) : Int) = x.1; omega) (by show 0 + ((x.2.toNat : Nat) : Int) = x.2; omega)
      have k3 : (if decide (((0 + ((x.1.toNat : Nat) : Int), 0 + ((x.2.toNat : Nat) : Int)) : Pr) ∈ qs) = true then 79 else 46) = 79 := k3
      rw [ex, if_neg (by simpa using no)] at k3
      cases k3
    · intro m
      have := f.inn x m
      refine ⟨this.1, this.2.1, _, picS_at (by omega), liveK_mem.mpr ⟨rfl, this.2.2.1, ?_, ?_⟩⟩
      · rw [tl_winS, List.length_map, List.length_range]
        exact this.2.2.2
      · rw [tl_winS, List.getElem?_map, List.getElem?_range (by omega)]
        have ex : ((0 + ((x.1.toNat : Nat) : Int), 0 + ((x.2.toNat : Nat) : Int)) : Pr) = x := Prod.ext (by show 0 + ((x.1.toNat : Nat) : Int) = x.1; omega) (by show 0 + ((x.2.toNat : Nat) : Int) = x.2; omega)
        show some (if decide (((0 + ((x.1.toNat : Nat) : Int), 0 + ((x.2.toNat : Nat) : Int)) : Pr) ∈ qs) = true then 79 else 46) = some 79
        rw [ex, if_pos (decide_eq_true m)]
end
end My
namespace My
open PySem PySem.Spec PyProof.Rows L2 Vx
open TL
local macro_rules | `(tactic| k_invariant "new" ($n, $H:ident, $e:ident, $h:ident)) => `(tactic| (generalize hE : upd _ _ _ = $H; obtain ⟨$e:ident, $h:ident⟩ := gen_e hE $n; clear hE))
local macro_rules | `(tactic| k_places) => `(tactic| first
  | assumption
  | exact lst_of (by assumption)
  | exact tup_of (by assumption)
  | (refine getS (by assumption) ?_; k_places)
  | (refine Same.seq (by assumption) ?_; k_places)
  | (refine tupS (by assumption) ?_; k_places)
  | (refine lst_of ?_; k_places)
  | (refine tup_of ?_; k_places))
local macro_rules | `(tactic| k_subL) => `(tactic| first
  | k_places
  | solve_by_elim (maxDepth := 10) [getS, lst_of, tup_of, Same.seq, tupS])
local macro_rules | `(tactic| k_offL) => `(tactic| first
  | (show (0 : Int) < _; first | omega | decide)
  | (refine ⟨?_, ?_⟩ <;> first | omega | decide)
  | exact .inr ⟨by decide, by decide⟩
  | exact .inl ⟨by decide, by decide⟩
  | exact .inl ⟨by omega, by omega⟩
  | omega)
local macro_rules | `(tactic| k_clsL) => `(tactic| exact Nat.le_of_ble_eq_true rfl)
local macro_rules | `(tactic| k_upd) => `(tactic| simp only [L2.start, List.map_cons, List.map_nil, List.length_cons, List.length_nil, List.replicate_succ, List.replicate_zero, List.cons_append, List.nil_append, List.set_cons_zero, List.set_cons_succ])
section
variable {P : Program} {w : World} {K : PySem.W.Frag} {mg : Str → Option Value} {base : Heap}
/-! ### texts that are changed -/
def Asc7 (l : List Nat) : Prop := ∀ c ∈ l, c < 128
theorem asc_app {a b : List Nat} (ha : Asc7 a) (hb : Asc7 b) : Asc7 (a ++ b) := fun c m => (List.mem_append.mp m).elim (ha c) (hb c)
theorem tl_cutS (z : Str) (lo hi : Option Int) : tl (cutS z lo hi) = ((tl z).drop (HT.sIx z.length 0 lo)).take (HT.sIx z.length z.length hi - HT.sIx z.length 0 lo) := rfl
theorem sIx_k {n d : Nat} {k : Int} (h : 0 ≤ k) : HT.sIx n d (some k) = min k.toNat n := by
  show (if k < 0 then (k + (n : Int)).toNat else min k.toNat n) = _
  rw [if_neg (by omega)]
theorem tl_lo (z : Str) {k : Int} (h : 0 ≤ k) : tl (cutS z none (some k)) = (tl z).take k.toNat := by
  rw [tl_cutS, sIx_k h]
  show ((tl z).drop 0).take (min k.toNat z.length - 0) = _
  rw [List.drop_zero, Nat.sub_zero, len_tl]
  by_cases c : k.toNat ≤ (tl z).length
  · rw [Nat.min_eq_left c]
  · rw [Nat.min_eq_right (by omega), List.take_of_length_le (Nat.le_refl _), List.take_of_length_le (by omega)]
theorem tl_hi (z : Str) {k : Int} (h : 0 ≤ k) : tl (cutS z (some k) none) = (tl z).drop k.toNat := by
  rw [tl_cutS, sIx_k h]
  show ((tl z).drop (min k.toNat z.length)).take (z.length - min k.toNat z.length) = _
  rw [len_tl, List.take_of_length_le (by rw [List.length_drop]; omega)]
  by_cases c : k.toNat ≤ (tl z).length
  · rw [Nat.min_eq_left c]
  · rw [Nat.min_eq_right (by omega), List.drop_of_length_le (Nat.le_refl _), List.drop_of_length_le (by omega)]
theorem joinL_flat : ∀ l : List (List Nat), joinL [] l = l.flatten
  | [] => rfl
  | [x] => by simp [joinL]
  | x :: y :: r => by
    show x ++ ([] ++ joinL [] (y :: r)) = _
    rw [joinL_flat (y :: r)]
    rfl
theorem tl_none : tl (Str.ofString "") = [] := by decide +kernel
theorem join_signs (cs : List Nat) : Txt.join (Str.ofString "") (cs.map fun c => (⟨#[c]⟩ : Str)) = ⟨cs.toArray⟩ := by
  have e : tl (Txt.join (Str.ofString "") (cs.map fun c => (⟨#[c]⟩ : Str))) = cs := by
    rw [join_eq, tl_join, tl_none, joinL_flat, List.map_map]
    induction cs with
    | nil => rfl
    | cons c cs ih =>
      rw [List.map_cons, List.flatten_cons, ih]
      rfl
  generalize Txt.join (Str.ofString "") (cs.map fun c => (⟨#[c]⟩ : Str)) = z at e
  obtain ⟨a⟩ := z
  have e : a.toList = cs := e
  rw [← e]
theorem signs_sum (cs : List Nat) : ((cs.map fun c => (⟨#[c]⟩ : Str)).map (·.length)).sum + (cs.map fun c => (⟨#[c]⟩ : Str)).length * (Str.ofString "").length = cs.length := by
  rw [show (Str.ofString "").length = 0 by decide +kernel, Nat.mul_zero, Nat.add_zero]
  induction cs with
  | nil => rfl
  | cons c cs ih =>
    rw [List.map_cons, List.map_cons, List.sum_cons, ih, List.length_cons]
    show 1 + cs.length = cs.length + 1
    omega
theorem asc_ok {z : Str} (h : Asc7 (tl z)) : PyData.strOk z = true := by
  unfold PyData.strOk
  rw [Array.all_eq_true']
  intro d m
  have := h d (by show d ∈ z.cps.toList; exact Array.mem_toList_iff.mpr m)
  simp
  omega
theorem asc_of {z : Str} (h : (tl z).all (fun c => decide (c < 128)) = true) : Asc7 (tl z) := fun c m => of_decide_eq_true (List.all_eq_true.mp h c m)
end
end My
namespace My
open PySem PySem.Spec PyProof.Rows L2 Vx
open TL
local macro_rules | `(tactic| k_invariant "new" ($n, $H:ident, $e:ident, $h:ident)) => `(tactic| (generalize hE : upd _ _ _ = $H; obtain ⟨$e:ident, $h:ident⟩ := gen_e hE $n; clear hE))
local macro_rules | `(tactic| k_places) => `(tactic| first
  | assumption
  | exact lst_of (by assumption)
  | exact tup_of (by assumption)
  | (refine getS (by assumption) ?_; k_places)
  | (refine Same.seq (by assumption) ?_; k_places)
  | (refine tupS (by assumption) ?_; k_places)
  | (refine lst_of ?_; k_places)
  | (refine tup_of ?_; k_places))
local macro_rules | `(tactic| k_subL) => `(tactic| first
  | k_places
  | solve_by_elim (maxDepth := 10) [getS, lst_of, tup_of, Same.seq, tupS])
local macro_rules | `(tactic| k_offL) => `(tactic| first
  | (show (0 : Int) < _; first | omega | decide)
  | (refine ⟨?_, ?_⟩ <;> first | omega | decide)
  | exact .inr ⟨by decide, by decide⟩
  | exact .inl ⟨by decide, by decide⟩
  | exact .inl ⟨by omega, by omega⟩
  | omega)
local macro_rules | `(tactic| k_clsL) => `(tactic| exact Nat.le_of_ble_eq_true rfl)
local macro_rules | `(tactic| k_upd) => `(tactic| simp only [L2.start, List.map_cons, List.map_nil, List.length_cons, List.length_nil, List.replicate_succ, List.replicate_zero, List.cons_append, List.nil_append, List.set_cons_zero, List.set_cons_succ])
section
variable {P : Program} {w : World} {K : PySem.W.Frag} {mg : Str → Option Value} {base : Heap}
/-! ### the law -/
def shP (x : Pr) : Pr := (x.1 - 5, x.2 + 3)
theorem sgC_one (b : Bool) : (⟨#[if b = true then 79 else 46]⟩ : Str) = sgC b := by
  cases b <;> decide +kernel
theorem dotO_bit (b : Bool) : atI (Str.ofString ".O").cps.toList (if b = true then 1 else 0) = some (if b = true then 79 else 46) := by
  cases b <;> decide +kernel
def sp_law (K : PySem.W.Frag) : Sp := fun vs H Q _ => ∃ (a : Addr) (ns : List Int), vs = [.ref a] ∧ SqL K H a (ns.map V.int) ∧ ns.length ≤ 63 ∧ ∀ H', Q (.bl true) H'
theorem ok_law (T : Txt P K mg) : FnOk P w K mg base CX0 5 T.f_law T.d_law ["script"] (sp_law K) := by
  refine T.F_law.ok sc_law (fun vs H Q E h => ?_) (fun cdv A outer s H vs Q E hr h => ?_)
  · obtain ⟨a, ns, rfl, _⟩ := h
    rfl
  · obtain ⟨a, ns, rfl, hS, hlen, q⟩ := h
    have hu65 : (A.deeper (envOfC (Str.ofString "law") (defScope s_law) s.heap.objs.size T.f_law cdv)).units + 65 < cLine := by
      have := hr.un
      omega
    refine ⟨_, (pss_cons (ps_set (i := 1) sc_law.nd rfl (.inl rfl) (pe_call (ok_law_cell T) (hr.mono (by decide)) (by rfl) T.g_law_cell T.F_law_cell.kp T.b_law_cell .nil pass0 (pa_cons (pv 0) (pa_cons pe_int pa_nil))))
      (pss_cons (ps_set (i := 2) sc_law.nd rfl (.inr rfl) (pe_lc (own := [("r", 7), ("c", 19)]) (tt := tYes) rfl sc_law.nd (pi_list (pe_call (ok_law_some T) (hr.mono (by decide)) (by rfl) T.g_law_some T.F_law_some.kp T.b_law_some .nil pass0 (pa_cons (pe_call (ok_law_cell T) (hr.mono (by decide)) (by rfl) T.g_law_cell T.F_law_cell.kp T.b_law_cell .nil pass0 (pa_cons (pv 0) (pa_cons pe_int pa_nil))) (pa_cons (pe_op op_mod (pv 1) pe_int) (pa_cons pe_int (pa_cons pe_int pa_nil)))))) (blkOk_by (own := [("r", 7), ("c", 19)]) (N := N_law) (sc := defScope s_law) (by decide +kernel)) (fun _ _ _ _ _ => (pg_tupK (K := K) (n := 2) rfl rfl (pgs_cons (pg_name (i := 7) sc_law.nd rfl (.inl rfl)) (pgs_cons (pg_name (i := 19) sc_law.nd rfl (.inl rfl)) pgs_nil)))) (fun _ _ _ _ _ => pts_nil) (fun _ _ _ _ _ => (pe_tup (pa_cons (pe_op op_sub (pv 7) pe_int) (pa_cons (pe_op op_add (pv 19) pe_int) pa_nil))))))
      (pss_cons (ps_mid (ps_set (i := 3) sc_law.nd rfl (.inl rfl) (pe_call (ok_picture T) (hr.mono (by decide)) (by rfl) T.g_picture T.F_picture.kp T.b_picture .nil pass0 (pa_cons (pe_callTy call_listL (by rfl) T.z_list (by decide +kernel) (pa_cons (pv 2) pa_nil)) pa_nil))))
      (pss_cons (ps_if (PW.pt (pw_or (pt_not (pt_val (pe_callB call_isi (by rfl) T.z_isinstance (by decide +kernel) (pa_cons (pv 3) (pa_cons (pe_bltn (v := .ty "list") (by rfl) T.z_list (by decide +kernel) rfl) pa_nil))))) (pw_or1 (pt_cmpR op_ne (pe_cmpR (op_eqD hr.units) (pv 2) (pe_lst pa_nil) (nomark _)) (pe_cmpR (op_eqD hr.units) (pv 3) (pe_lst pa_nil) (nomark _)) (nomark _)))))
      (pss_one (ps_ret pe_bl))
      pss_nil)
      (pss_cons (ps_mid (ps_if (pt_cmpR (op_neD hr.units) (pv 2) (pe_lst pa_nil) (nomark _))
      (pss_cons (ps_set (i := 4) sc_law.nd rfl (.inr rfl) (pe_callB (cr_min rfl) (by rfl) T.z_min (by decide +kernel) (pa_cons (pe_lc (own := [("r", 7), ("c", 19)]) (tt := tYes) rfl sc_law.nd (pi_list (pv 2)) (blkOk_by (own := [("r", 7), ("c", 19)]) (N := N_law) (sc := defScope s_law) (by decide +kernel)) (fun _ _ _ _ _ => (pg_tupK (K := K) (n := 2) rfl rfl (pgs_cons (pg_name (i := 7) sc_law.nd rfl (.inl rfl)) (pgs_cons (pg_name (i := 19) sc_law.nd rfl (.inl rfl)) pgs_nil)))) (fun _ _ _ _ _ => pts_nil) (fun _ _ _ _ _ => (pv 7))) pa_nil)))
      (pss_cons (ps_set (i := 5) sc_law.nd rfl (.inr rfl) (pe_callB (cr_min rfl) (by rfl) T.z_min (by decide +kernel) (pa_cons (pe_lc (own := [("r", 7), ("c", 19)]) (tt := tYes) rfl sc_law.nd (pi_list (pv 2)) (blkOk_by (own := [("r", 7), ("c", 19)]) (N := N_law) (sc := defScope s_law) (by decide +kernel)) (fun _ _ _ _ _ => (pg_tupK (K := K) (n := 2) rfl rfl (pgs_cons (pg_name (i := 7) sc_law.nd rfl (.inl rfl)) (pgs_cons (pg_name (i := 19) sc_law.nd rfl (.inl rfl)) pgs_nil)))) (fun _ _ _ _ _ => pts_nil) (fun _ _ _ _ _ => (pv 19))) pa_nil)))
      (pss_cons (ps_set (i := 6) sc_law.nd rfl (.inl rfl) (pe_lst pa_nil))
      (pss_cons (ps_for PassesOwn.never rfl (pi_range2 (by rfl) T.z_range (pa_cons (pv 4) (pa_cons (pe_op op_add (pe_callB (cr_max rfl) (by rfl) T.z_max (by decide +kernel) (pa_cons (pe_lc (own := [("r", 7), ("c", 19)]) (tt := tYes) rfl sc_law.nd (pi_list (pv 2)) (blkOk_by (own := [("r", 7), ("c", 19)]) (N := N_law) (sc := defScope s_law) (by decide +kernel)) (fun _ _ _ _ _ => (pg_tupK (K := K) (n := 2) rfl rfl (pgs_cons (pg_name (i := 7) sc_law.nd rfl (.inl rfl)) (pgs_cons (pg_name (i := 19) sc_law.nd rfl (.inl rfl)) pgs_nil)))) (fun _ _ _ _ _ => pts_nil) (fun _ _ _ _ _ => (pv 7))) pa_nil)) pe_int) pa_nil))) (pg_name (i := 7) sc_law.nd rfl (.inr rfl))
      (pss_one (ps_expr (pe_bm PySem.F.plainAttrs_list PySem.F.slot_list_append PySem.F.type_list_append mt_append (pv 6) (pa_cons (pe_join pe_str (pe_lc (own := [("c", 19)]) (g := gName 19) (tt := tYes) rfl sc_law.nd (pi_range2 (by rfl) T.z_range (pa_cons (pv 5) (pa_cons (pe_op op_add (pe_callB (cr_max rfl) (by rfl) T.z_max (by decide +kernel) (pa_cons (pe_lc (own := [("r", 7), ("c", 19)]) (tt := tYes) rfl sc_law.nd (pi_list (pv 2)) (blkOk_by (own := [("r", 7), ("c", 19)]) (N := N_law) (sc := defScope s_law) (by decide +kernel)) (fun _ _ _ _ _ => (pg_tupK (K := K) (n := 2) rfl rfl (pgs_cons (pg_name (i := 7) sc_law.nd rfl (.inl rfl)) (pgs_cons (pg_name (i := 19) sc_law.nd rfl (.inl rfl)) pgs_nil)))) (fun _ _ _ _ _ => pts_nil) (fun _ _ _ _ _ => (pv 19))) pa_nil)) pe_int) pa_nil))) (blkOk_by (own := [("c", 19)]) (N := N_law) (sc := defScope s_law) (by decide +kernel)) (fun _ _ _ _ _ => pg_name (i := 19) sc_law.nd rfl (Or.inl rfl)) (fun _ _ _ _ _ => pts_nil) (fun _ _ _ _ _ => (pe_ix ix_str pe_str (pe_callTy call_intB (by rfl) T.z_int (by decide +kernel) (pa_cons (pe_cmpR (op_inP hu65) (pe_tup (pa_cons (pv 7) (pa_cons (pv 19) pa_nil))) (pv 2) rfl) pa_nil)) (fun _ _ => rfl))))) pa_nil)))))
      (pss_one (ps_if (PW.pt (pw_or (pt_cmpR (op_neD hr.units) (pv 3) (pv 6) (nomark _)) (pw_or1 (pt_cmpR (op_neD hr.units) (pe_call (ok_read_picture T) (hr.mono (by decide)) (by rfl) T.g_read_picture T.F_read_picture.kp T.b_read_picture .nil passL (pa_cons (pv 3) pa_nil)) (pe_lc (own := [("r", 7), ("c", 19)]) (tt := tYes) rfl sc_law.nd (pi_list (pv 2)) (blkOk_by (own := [("r", 7), ("c", 19)]) (N := N_law) (sc := defScope s_law) (by decide +kernel)) (fun _ _ _ _ _ => (pg_tupK (K := K) (n := 2) rfl rfl (pgs_cons (pg_name (i := 7) sc_law.nd rfl (.inl rfl)) (pgs_cons (pg_name (i := 19) sc_law.nd rfl (.inl rfl)) pgs_nil)))) (fun _ _ _ _ _ => pts_nil) (fun _ _ _ _ _ => (pe_tup (pa_cons (pe_op op_sub (pv 7) (pv 4)) (pa_cons (pe_op op_sub (pv 19) (pv 5)) pa_nil))))) (nomark _)))))
      (pss_one (ps_ret pe_bl))
      pss_nil))))))
      pss_nil))
      (pss_cons (ps_set (i := 8) sc_law.nd rfl (.inl rfl) (pe_op op_mod (pe_op op_fdiv (pv 1) pe_int) pe_int))
      (pss_cons (ps_set (i := 9) sc_law.nd rfl (.inl rfl) (pe_lst pa_nil))
      (pss_cons (ps_for PassesOwn.never rfl (pi_range1 (by rfl) T.z_range (pa_cons (pe_op op_mod (pe_op op_fdiv (pv 1) pe_int) pe_int) pa_nil)) (pg_name (i := 10) sc_law.nd rfl (.inl rfl))
      (pss_one (ps_expr (pe_bm PySem.F.plainAttrs_list PySem.F.slot_list_append PySem.F.type_list_append mt_append (pv 9) (pa_cons (pe_join pe_str (pe_lc (own := [("x", 11)]) (g := gName 11) (tt := tYes) rfl sc_law.nd (pi_list (pe_call (ok_law_row T) (hr.mono (by decide)) (by rfl) T.g_law_row T.F_law_row.kp T.b_law_row .nil pass0 (pa_cons (pe_op op_add (pe_call (ok_law_cell T) (hr.mono (by decide)) (by rfl) T.g_law_cell T.F_law_cell.kp T.b_law_cell .nil pass0 (pa_cons (pv 0) (pa_cons pe_int pa_nil))) (pv 10)) (pa_cons (pv 8) (pa_cons pe_int pa_nil))))) (blkOk_by (own := [("x", 11)]) (N := N_law) (sc := defScope s_law) (by decide +kernel)) (fun _ _ _ _ _ => pg_name (i := 11) sc_law.nd rfl (Or.inl rfl)) (fun _ _ _ _ _ => pts_nil) (fun _ _ _ _ _ => (pe_ix ix_str pe_str (pe_op op_mod (pv 11) pe_int) (fun _ _ => rfl))))) pa_nil)))))
      (pss_cons (ps_mid (ps_for PassesOwn.never rfl (pi_range1 (by rfl) T.z_range (pa_cons (pe_op op_mod (pe_op op_fdiv (pv 1) pe_int) pe_int) pa_nil)) (pg_name (i := 10) sc_law.nd rfl (.inl rfl))
      (pss_cons (ps_set (i := 11) sc_law.nd rfl (.inl rfl) (pe_callB call_abs (by rfl) T.z_abs (by decide +kernel) (pa_cons (pe_call (ok_law_cell T) (hr.mono (by decide)) (by rfl) T.g_law_cell T.F_law_cell.kp T.b_law_cell .nil pass0 (pa_cons (pv 0) (pa_cons (pe_op op_add pe_int (pv 10)) pa_nil))) pa_nil)))
      (pss_one (ps_if (pt_cmpR op_gt (pe_callB call_lenL (by rfl) T.z_len (by decide +kernel) (pa_cons (pv 9) pa_nil)) pe_int (nomark _))
      (pss_cons (ps_set (i := 7) sc_law.nd rfl (.inr rfl) (pe_op op_mod (pv 11) (pe_callB call_lenL (by rfl) T.z_len (by decide +kernel) (pa_cons (pv 9) pa_nil))))
      (pss_cons (ps_set (i := 12) sc_law.nd rfl (.inl rfl) (pe_op op_mod (pe_op op_fdiv (pv 11) pe_int) (pe_op op_add (pe_callB call_len_str (by rfl) T.z_len (by decide +kernel) (pa_cons (pe_ix ix_list (pv 9) (pv 7) (fun _ _ => rfl)) pa_nil)) pe_int)))
      (pss_one (ps_asg (pe_op op_add_str (pe_op op_add_str (pe_slice sl_str (pe_ix ix_list (pv 9) (pv 7) (fun _ _ => rfl)) po_none (po_some (pv 12))) (pe_ix ix_list (pe_lst (pa_cons pe_str (pa_cons pe_str (pa_cons pe_str (pa_cons pe_str (pa_cons pe_str (pa_cons pe_str pa_nil))))))) (pe_op op_mod (pe_op op_fdiv (pv 11) pe_int) pe_int) (fun _ _ => rfl))) (pe_slice sl_str (pe_ix ix_list (pv 9) (pv 7) (fun _ _ => rfl)) (po_some (pe_op op_add (pv 12) (pe_op op_mod (pe_op op_fdiv (pv 11) pe_int) pe_int))) po_none)) (pg_sub (pv 9) (pv 7) set_list)))))
      pss_nil)))))
      (pss_cons (ps_asg (pe_call (ok_law_due T) (hr.mono (by decide)) (by rfl) T.g_law_due T.F_law_due.kp T.b_law_due .nil pass0 (pa_cons (pv 9) pa_nil)) (pg_tupK (K := K) (n := 2) rfl rfl (pgs_cons (pg_name (i := 13) sc_law.nd rfl (.inl rfl)) (pgs_cons (pg_name (i := 14) sc_law.nd rfl (.inl rfl)) pgs_nil))))
      (pss_cons (ps_set (i := 15) sc_law.nd rfl (.inl rfl) (pe_callTy call_listL (by rfl) T.z_list (by decide +kernel) (pa_cons (pv 9) pa_nil)))
      (pss_cons (ps_try_as (i := 17) rfl rfl sc_law.nd rfl rfl ⟨rfl, by decide, .inl T.g_LifeError⟩ takes0 (fun W pn xe tk _ =>
      (pss_one (ps_set (i := 16) sc_law.nd rfl (.inl rfl) (pe_callS (ok_read_picture T) (hr.mono (by decide)) (by rfl) T.g_read_picture T.F_read_picture.kp T.b_read_picture (fun σ => passAt tk σ) (pa_cons (pv 15) pa_nil)))))
      (fun a oe cls d pn hz hf => (pss_cons (ps_set (i := 18) sc_law.nd rfl (.inl rfl) (pe_or (pe_callB (call_isEd T.excC T.clIPs hz hf) (by rfl) T.z_isinstance (by decide +kernel) (pa_cons (pv 17) (pa_cons (pe_glob (v := .ref T.C_InvalidText) (by rfl) T.g_InvalidText rfl) pa_nil))) (pe_or (pe_callB (call_isEd T.excC T.clIPs hz hf) (by rfl) T.z_isinstance (by decide +kernel) (pa_cons (pv 17) (pa_cons (pe_glob (v := .ref T.C_InvalidRule) (by rfl) T.g_InvalidRule rfl) pa_nil))) (pe_one (pe_not (pe_callB (call_isEd T.excC T.clIPs hz hf) (by rfl) T.z_isinstance (by decide +kernel) (pa_cons (pv 17) (pa_cons (pe_bltn (v := .ty "ValueError") (by rfl) T.z_ValueError (by decide +kernel) rfl) pa_nil))))))))
      (pss_one (ps_ret (pe_and (pe_callB (call_isEd T.excC T.clIPs hz hf) (by rfl) T.z_isinstance (by decide +kernel) (pa_cons (pv 17) (pa_cons (pe_glob (v := .ref T.C_InvalidPicture) (by rfl) T.g_InvalidPicture rfl) pa_nil))) (pe_and (pe_not (pv 18)) (pe_and (pe_cmpR (op_eqDK (K := K) rfl hr.units) (pe_tup (pa_cons (pe_xf T.xfIP T.nrIP hz hf (pv 17)) (pa_cons (pe_xf T.xfIP T.ncIP hz hf (pv 17)) pa_nil))) (pv 14) (nomark _)) (pe_one (pe_cmpR (op_eqDK (K := K) rfl hr.units) (pv 15) (pv 9) (nomark _)))))))))))
      (pss_one (ps_ret (pe_and (pe_cmpR op_isN (pv 14) pe_non (nomark _)) (pe_and (pe_call (ok_law_cells T) (hr.mono (by decide)) (by rfl) T.g_law_cells T.F_law_cells.kp T.b_law_cells .nil pass0 (pa_cons (pv 16) pa_nil)) (pe_and (pe_cmpR (op_eqD hr.units) (pv 16) (pv 13) (nomark _)) (pe_one (pe_cmpR (op_eqDK (K := K) rfl hr.units) (pv 15) (pv 9) (nomark _)))))))))))))))))))), ?_⟩
    k_upd
    refine ⟨_, rfl, a, ns, 0, rfl, hS, ?_⟩
    generalize cellOf ns 0 = first
    k_upd
    have c0 := Int.emod_nonneg first (show (21 : Int) ≠ 0 by decide)
    have c21 := Int.emod_lt_of_pos first (show (0 : Int) < 21 by decide)
    refine ⟨_, rfl, a, ns, 1, rfl, hS, ?_⟩
    generalize cellOf ns 1 = z1
    refine ⟨_, rfl, _, _, rfl, rfl, (by show (0 : Int) < 21; decide), ?_⟩
    refine ⟨z1, first % 21, 6, 8, rfl, c0, by omega, by decide, by decide, by decide, by decide, fun H1 pc0 ps n1 e1 hC0 pw0 lps hps => ?_⟩
    have few0 : ps.length < 64 := by omega
    refine ⟨pc0, rfl, ⟨_, lst_of hC0.choose_spec.1⟩, fun pc nc => lc_cells shP hC0 nc (lt_line few0) ?_ fun H2 e2 hC => ?_⟩
    · intro t x H' Po Pn _ ht hq
      exact ⟨t, _, rfl, tup_of ht, rfl, _, _, rfl, _, _, rfl, rfl, rfl, tyesT ⟨_, rfl, _, _, rfl, rfl, _, rfl, _, _, rfl, rfl, (by k_clsL), fun t2 n2 => hq t2 n2⟩⟩
    obtain ⟨cs, ecs⟩ : ∃ cs, cs = ps.map shP := ⟨_, rfl⟩
    rw [← ecs] at hC
    have lcs : cs.length < 64 := by rw [ecs, List.length_map]; exact few0
    have pw : cs.Pairwise ltP := by
      rw [ecs]
      refine pw_map (fun x y h => ?_) pw0
      have h := ltP_iff.mp h
      refine ltP_iff.mpr ?_
      unfold shP
      dsimp only
      omega
    have bx : ∀ x ∈ cs, -5 ≤ x.1 ∧ x.1 < 1 ∧ 3 ≤ x.2 ∧ x.2 < 11 := fun x m => by
      rw [ecs] at m
      obtain ⟨y, my, rfl⟩ := List.mem_map.mp m
      have := hps y my
      unfold shP
      dsimp only
      omega
    have s2 := e1.trans e2
    refine gName_go ?_
    k_upd
    have hC2 := hC
    refine ⟨fun σ' H' => ∃ (p4 : Addr) (zs : List Str), σ' = [some (.ref a), some (.int first), some (.ref pc), some (.ref p4), none, none, none, none, none, none, none, none, none, none, none, none, none, none, none, none] ∧ Same H2 H' ∧ H' p4 = some (.lst (zs.map V.str)) ∧
      ((cs = [] ∧ zs = []) ∨ (cs ≠ [] ∧ ∃ (qs : List Pr) (h wd : Nat), zs = picS qs h wd ∧ (∀ a b, Least a (rowsP cs) → Least b (colsP cs) → CanP (cs.map (addP (-a) (-b))) qs) ∧ Fits qs h wd)), ?_, ?_⟩
    · obtain ⟨ts, hts, htt, ets⟩ := id hC
      refine ⟨_, rfl, pc, _, rfl, lst_of hts, fun p2 n2 => ?_⟩
      have hC2 : Cells (upd H2 p2 (.lst (ts.map fun t => V.ref t.1))) p2 cs := by
        rw [← ets]
        exact cells_mk ts upd_same fun t m => newS n2 _ _ (htt t m)
      have e3 : Same H2 (upd H2 p2 (.lst (ts.map fun t => V.ref t.1))) := newS n2
      generalize upd H2 p2 (.lst (ts.map fun t => V.ref t.1)) = H3 at hC2 e3 ⊢
      refine ⟨p2, cs, rfl, hC2, lcs, fun x mx y my => by have := bx x mx; have := bx y my; omega, fun enil H4 p4 n4 e4 g4 => ?_, fun nne H4 p4 qs h wd n4 e4 hqs fit g4 => ?_⟩
      · refine gName_go ?_
        k_upd
        exact ⟨p4, [], rfl, e3.trans e4, g4, .inl ⟨enil, rfl⟩⟩
      · refine gName_go ?_
        k_upd
        exact ⟨p4, _, rfl, e3.trans e4, g4, .inr ⟨nne, qs, h, wd, rfl, hqs, fit⟩⟩
    rintro σ' H4 ⟨p4, zs, rfl, e4, g4, alt⟩
    have hC4 := hC.up e4
    obtain ⟨ts4, hts4, htt4, ets4⟩ := id hC4
    refine ⟨_, rfl, _, _, _, _, _, rfl, .ty _, .base (.lst g4), rfl, _, rfl, iteF ?_⟩
    refine ⟨_, rfl, (by k_clsL), fun pe npe => ?_⟩
    k_invariant "new" (npe, H5, e5, g5)
    have nil5 : Cells H5 pe [] := ⟨[], g5, fun _ m => (by cases m), rfl⟩
    refine ⟨_, _, dp_cells (hC4.up e5), dp_cells nil5, shaped_cells _, shaped_cells _, ?_⟩
    refine ⟨_, rfl, (by k_clsL), fun pf npf => ?_⟩
    k_invariant "new" (npf, H6, e6, g6)
    have nil6 : Cells H6 pf [] := ⟨[], g6, fun _ m => (by cases m), rfl⟩
    have zok : ∀ z ∈ zs, PyData.strOk z = true := fun z m => by
      rcases alt with ⟨_, e⟩ | ⟨_, qs, h, wd, e, _⟩
      · rw [e] at m
        cases m
      · rw [e] at m
        exact (picS_ok z m).1
    refine ⟨_, _, .lst (lst_of (e6 _ _ (e5 _ _ g4))) (dpAll_strs zs), dp_cells nil6, shaped_strs zok, shaped_cells _, ?_⟩
    refine ⟨rfl, _, rfl, ?_⟩
    have nez : cs ≠ [] → ∃ z zr, zs = z :: zr := fun ne => by
      rcases alt with ⟨e, _⟩ | ⟨_, qs, h, wd, e, hq, fit⟩
      · exact absurd e ne
      · cases zs with
        | cons z zr => exact ⟨z, zr, rfl⟩
        | nil =>
          have l0 := picS_len qs h wd
          rw [← e] at l0
          obtain ⟨y, my, _⟩ := fit.lastR
          have := fit.inn y my
          rw [List.length_nil] at l0
          omega
    have eb : PyData.eqv (.list (cs.map pd)) (.list (([] : List Pr).map pd)) = PyData.eqv (.list (zs.map PyData.str)) (.list (([] : List Pr).map pd)) := by
      by_cases ne : cs = []
      · rcases alt with ⟨e1, e2⟩ | ⟨ne2, _⟩
        · rw [e1, e2]
          rfl
        · exact absurd ne ne2
      · obtain ⟨z, zr, e⟩ := nez ne
        rw [eqv_cells, decide_eq_false ne, e]
        rfl
    dsimp only
    rw [eb, decide_eq_true rfl]
    refine iteF ?_
    have e46 := e5.trans e6
    have hC6 := hC4.up e46
    have g46 := e46 _ _ g4
    refine ⟨fun σ' H' => (∃ x2 x3 x4 x5 x6 x7 : Option V, σ' = [some (.ref a), some (.int first), x2, x3, x4, x5, x6, x7, none, none, none, none, none, none, none, none, none, none, none, none]) ∧ Same H H', ?_, ?_⟩
    · refine ⟨_, rfl, (by k_clsL), fun pg npg => ?_⟩
      k_invariant "new" (npg, H7, e7, g7)
      have nil7 : Cells H7 pg [] := ⟨[], g7, fun _ m => (by cases m), rfl⟩
      have hC7 := hC6.up e7
      refine ⟨_, _, dp_cells hC7, dp_cells nil7, shaped_cells _, shaped_cells _, _, rfl, ?_⟩
      rw [eqv_cells]
      have s7 := s2.trans (e4.trans (e46.trans e7))
      by_cases ne : cs = []
      · rw [decide_eq_true ne]
        exact iteF ⟨⟨_, _, _, _, _, _, rfl⟩, s7⟩
      rw [decide_eq_false ne]
      refine iteT ?_
      rcases alt with ⟨e, _⟩ | ⟨_, qs, h, wd, ezs, hqs, fit⟩
      · exact absurd e ne
      have csne : ∀ f : Pr → Int, cs.map f ≠ [] := fun f e => ne (List.map_eq_nil_iff.mp e)
      refine ⟨_, rfl, _, rfl, ⟨_, lst_of hC7.choose_spec.1⟩, fun D nD => lc_nums (·.1) hC7 nD (lt_line lcs) ?_ fun H8 e8 h8 => ?_⟩
      · intro t x H' Po Pn _ ht hq
        exact ⟨t, _, rfl, tup_of ht, rfl, _, _, rfl, _, _, rfl, rfl, rfl, tyesT ⟨_, rfl, hq⟩⟩
      refine ⟨_, _, rfl, lst_of h8, by rw [List.length_map]; exact List.length_pos_iff.mpr ne, fun top mt lt => ?_⟩
      refine gName_go ?_
      k_upd
      have hC8 := hC7.up e8
      refine ⟨_, rfl, _, rfl, ⟨_, lst_of hC8.choose_spec.1⟩, fun D nD => lc_nums (·.2) hC8 nD (lt_line lcs) ?_ fun H9 e9 h9 => ?_⟩
      · intro t x H' Po Pn _ ht hq
        exact ⟨t, _, rfl, tup_of ht, rfl, _, _, rfl, _, _, rfl, rfl, rfl, tyesT ⟨_, rfl, hq⟩⟩
      refine ⟨_, _, rfl, lst_of h9, by rw [List.length_map]; exact List.length_pos_iff.mpr ne, fun left ml ll => ?_⟩
      refine gName_go ?_
      k_upd
      have can := hqs top left ⟨mt, lt⟩ ⟨ml, ll⟩
      have memq : ∀ x : Pr, ((x.1 - top, x.2 - left) : Pr) ∈ qs ↔ x ∈ cs := fun x => by
        rw [can.2, List.mem_map]
        constructor
        · rintro ⟨y, my, e⟩
          have h1 : y.1 + -top = x.1 - top := congrArg Prod.fst e
          have h2 : y.2 + -left = x.2 - left := congrArg Prod.snd e
          have : y = x := Prod.ext (by omega) (by omega)
          rw [← this]
          exact my
        · intro m
          exact ⟨x, m, rfl⟩
      have bt : -5 ≤ top ∧ top < 1 := by
        obtain ⟨y, my, e⟩ := List.mem_map.mp mt
        have := bx y my
        have e : y.1 = top := e
        omega
      have bl : 3 ≤ left ∧ left < 11 := by
        obtain ⟨y, my, e⟩ := List.mem_map.mp ml
        have := bx y my
        have e : y.2 = left := e
        omega
      refine ⟨(by k_clsL), fun pdl npd => ?_⟩
      have npd7 := backS (e8.trans e9) npd
      k_invariant "new" (npd, Ha, ea, ga)
      refine gName_go ?_
      k_upd
      have e7a := e8.trans (e9.trans ea)
      have hCa := hC7.up e7a
      refine ⟨_, rfl, _, rfl, _, rfl, ⟨_, lst_of hCa.choose_spec.1⟩, fun D nD => lc_nums (·.1) hCa nD (lt_line lcs) ?_ fun Hb eb2 hb => ?_⟩
      · intro t x H' Po Pn _ ht hq
        exact ⟨t, _, rfl, tup_of ht, rfl, _, _, rfl, _, _, rfl, rfl, rfl, tyesT ⟨_, rfl, hq⟩⟩
      refine ⟨_, _, rfl, lst_of hb, by rw [List.length_map]; exact List.length_pos_iff.mpr ne, fun m1 mm1 lm1 => ?_⟩
      refine ⟨_, _, rfl, rfl, ?_⟩
      have eh : m1 + 1 - top = (h : Int) := by
        obtain ⟨y, my, ey⟩ := fit.lastR
        obtain ⟨x, mx, rfl⟩ := List.mem_map.mp ((can.2 y).mp my)
        have h1 : x.1 ≤ m1 := lm1 _ (List.mem_map_of_mem (f := (·.1)) mx)
        have h2 : x.1 + -top + 1 = (h : Int) := ey
        obtain ⟨x2, mx2, e2⟩ := List.mem_map.mp mm1
        have e2 : x2.1 = m1 := e2
        have h3 : x2.1 - top < (h : Int) := (fit.inn _ ((memq x2).mpr mx2)).2.1
        omega
      have h90 := fit.h90
      have w90 := fit.w90
      refine ⟨_, _, rfl, ⟨by omega, by omega, by omega, by omega⟩, for_range (lo := top) (n := (m1 + 1 - top).toNat) (fun i σ H' => Same H7 H' ∧ H' pdl = some (.lst ((zs.take i).map V.str)) ∧ ∃ x7 : Option V, σ = [some (.ref a), some (.int first), some (.ref pc), some (.ref p4), some (.int top), some (.int left), some (.ref pdl), x7, none, none, none, none, none, none, none, none, none, none, none, none])
        ⟨e7a.trans eb2, eb2 _ _ ga, _, rfl⟩ ?_ ?_⟩
      · rintro i σ Hc hi ⟨sc, gc, x7, rfl⟩
        have hi : i < h := by omega
        refine gName_go ?_
        k_upd
        have hCc := hC7.up sc
        refine ⟨_, rfl, .inl ⟨rfl, _, lst_of gc⟩, ⟨_, rfl⟩, ?_⟩
        refine ⟨_, rfl, _, rfl, _, rfl, ⟨_, lst_of hCc.choose_spec.1⟩, fun D nD => lc_nums (·.2) hCc nD (lt_line lcs) ?_ fun Hd ed hd => ?_⟩
        · intro t x H' Po Pn _ ht hq
          exact ⟨t, _, rfl, tup_of ht, rfl, _, _, rfl, _, _, rfl, rfl, rfl, tyesT ⟨_, rfl, hq⟩⟩
        refine ⟨_, _, rfl, lst_of hd, by rw [List.length_map]; exact List.length_pos_iff.mpr ne, fun m2 mm2 lm2 => ?_⟩
        refine ⟨_, _, rfl, rfl, ?_⟩
        have ew : m2 + 1 - left = (wd : Int) := by
          obtain ⟨y, my, ey⟩ := fit.lastC
          obtain ⟨x, mx, rfl⟩ := List.mem_map.mp ((can.2 y).mp my)
          have h1 : x.2 ≤ m2 := lm2 _ (List.mem_map_of_mem (f := (·.2)) mx)
          have h2 : x.2 + -left + 1 = (wd : Int) := ey
          obtain ⟨x2, mx2, e2⟩ := List.mem_map.mp mm2
          have e2 : x2.2 = m2 := e2
          have h3 : x2.2 - left < (wd : Int) := (fit.inn _ ((memq x2).mpr mx2)).2.2.2
          omega
        have hCd := hCc.up ed
        have gcd := ed _ _ gc
        refine ⟨_, _, rfl, ⟨by omega, by omega, by omega, by omega⟩, fun D nD => lc_range (lo := left) (n := (m2 + 1 - left).toNat) (fun j H' => Same Hd H' ∧ H' D = some (.lst ((List.range j).map fun (b : Nat) => V.str (sgC (decide (((0 + (i : Int), 0 + (b : Int)) : Pr) ∈ qs))))))
          ⟨newS nD, upd_same⟩ ?_ ?_⟩
        · rintro j H' hj ⟨sj, gj⟩
          refine ⟨rfl, tyesT ⟨_, rfl, _, rfl, (by k_clsL), fun t nt => ?_⟩⟩
          k_invariant "new" (nt, Hf, ef, gf)
          have em : decide (((top + (i : Int), left + (j : Int)) : Pr) ∈ cs) = decide (((0 + (i : Int), 0 + (j : Int)) : Pr) ∈ qs) := by
            rw [decide_eq_decide, ← memq]
            have : ((top + (i : Int) - top, left + (j : Int) - left) : Pr) = (0 + (i : Int), 0 + (j : Int)) := Prod.ext (by dsimp only; omega) (by dsimp only; omega)
            rw [this]
          refine ⟨_, rfl, t, pc, (top + (i : Int), left + (j : Int)), cs, rfl, rfl, gf, hCd.up (sj.trans ef), _, rfl, _, _, _, rfl, rfl, ?_, dotO_bit _, _, ef _ _ gj, ?_, mutS (sj.trans ef) nD, ?_⟩
          · rw [show (Str.ofString ".O").length = 2 by decide +kernel, sizeLine_eq]
            decide
          · rw [List.length_map, List.length_range, sizeLine_eq]
            omega
          · rw [upd_same, List.range_succ, List.map_append, em, sgC_one]
            rfl
        · rintro He ⟨se, ge⟩
          rw [ew, Int.toNat_natCast] at ge
          have ge2 : He D = some (.lst (((List.range wd).map fun (b : Nat) => sgC (decide (((0 + (i : Int), 0 + (b : Int)) : Pr) ∈ qs))).map V.str)) := by
            rw [ge, List.map_map]
            rfl
          refine ⟨_, _, _, rfl, rfl, .inl (lst_of ge2), ?_, ?_⟩
          · have : (((List.range wd).map fun (b : Nat) => sgC (decide (((0 + (i : Int), 0 + (b : Int)) : Pr) ∈ qs))).map (·.length)).sum ≤ wd := by
              rw [List.map_map]
              have : ((List.range wd).map ((·.length) ∘ fun (b : Nat) => sgC (decide (((0 + (i : Int), 0 + (b : Int)) : Pr) ∈ qs)))) = (List.range wd).map fun _ => 1 := List.map_congr_left fun b _ => sgC_len _
              rw [this, List.map_const', List.sum_replicate_nat, List.length_range]
              omega
            rw [show (Str.ofString "").length = 0 by decide +kernel]
            omega
          have lz : zs.length = h := by rw [ezs, picS_len]
          have hzi : zs[i]? = some (winS (fun y => decide (y ∈ qs)) (0 + (i : Int)) 0 wd) := by
            rw [ezs]
            exact picS_at hi
          refine ⟨_, _, _, rfl, rfl, se _ _ gcd, ?_, mutS (sc.trans (ed.trans se)) npd7, ?_, _, rfl⟩
          · rw [List.length_map, List.length_take, sizeLine_eq]
            omega
          · rw [upd_same, take_next hzi, List.map_append]
            rfl
      · rintro σ Hc ⟨sc, gc, x7, rfl⟩
        have lz : zs.length = h := by rw [ezs, picS_len]
        rw [eh, Int.toNat_natCast, List.take_of_length_le (by rw [lz]; exact Nat.le_refl _)] at gc
        have gp := sc _ _ (e7 _ _ g46)
        have shz : SeqAt.shaped (.list (zs.map PyData.str)) = true := shaped_strs zok
        refine ⟨_, rfl, _, rfl, _, _, .lst (lst_of gp) (dpAll_strs zs), .lst (lst_of gc) (dpAll_strs zs), shz, shz, _, rfl, ?_⟩
        rw [PySem.SeqAt.eqv_refl _ (by unfold SeqAt.shaped at shz; exact (Bool.and_eq_true_iff.mp shz).1)]
        refine iteF ?_
        have rd := picS_read fit can.1
        rw [← ezs] at rd
        refine ⟨_, rfl, p4, zs, rfl, gp, by omega, fun z m => ?_, fun x hx => ?_, fun _ Hd pr nr er hr => ?_⟩
        · rw [ezs] at m
          have := (picS_ok z m).2
          omega
        · rw [rd.1] at hx
          cases hx
        rw [rd.2] at hr
        have hCd := (hC7.up sc).up er
        refine ⟨_, rfl, _, rfl, ⟨_, lst_of hCd.choose_spec.1⟩, fun D nD => lc_cells (fun x => (x.1 - top, x.2 - left)) hCd nD (lt_line lcs) ?_ fun He ee he => ?_⟩
        · intro t x H' Po Pn _ ht hq
          exact ⟨t, _, rfl, tup_of ht, rfl, _, _, rfl, _, _, rfl, rfl, rfl, tyesT ⟨_, rfl, _, rfl, _, _, rfl, rfl, _, rfl, _, rfl, _, _, rfl, rfl, (by k_clsL), fun t2 n2 => hq t2 n2⟩⟩
        have eqq : qs = cs.map fun x : Pr => (x.1 - top, x.2 - left) := by
          refine ascP_eq can.1 (pw_map (fun x y h => ?_) pw) fun x => can.2 x
          have h := ltP_iff.mp h
          refine ltP_iff.mpr ?_
          dsimp only
          omega
        rw [← eqq] at he
        refine ⟨_, _, dp_cells (hr.up ee), dp_cells he, shaped_cells _, shaped_cells _, _, rfl, ?_⟩
        rw [eqv_cells, decide_eq_true rfl]
        exact iteF ⟨⟨_, _, _, _, _, _, rfl⟩, s7.trans (sc.trans (er.trans ee))⟩
    rintro σ' H7 ⟨⟨x2, x3, x4, x5, x6, x7, rfl⟩, s7⟩
    -- width
    refine ⟨_, rfl, _, _, rfl, rfl, ⟨by decide, by decide⟩, _, _, rfl, rfl, (by show (0 : Int) < 9; decide), ?_⟩
    have w0 := Int.emod_nonneg (first / 21) (show (9 : Int) ≠ 0 by decide)
    have w9 := Int.emod_lt_of_pos (first / 21) (show (0 : Int) < 9 by decide)
    obtain ⟨wd, ewd⟩ := Int.eq_ofNat_of_zero_le w0
    refine gName_go ?_
    k_upd
    rw [ewd]
    refine ⟨(by k_clsL), fun po npo => ?_⟩
    have npo0 := backS s7 npo
    k_invariant "new" (npo, H8, e8, g8)
    refine gName_go ?_
    k_upd
    have q0 := Int.emod_nonneg (first / 189) (show (7 : Int) ≠ 0 by decide)
    have q7 := Int.emod_lt_of_pos (first / 189) (show (0 : Int) < 7 by decide)
    refine ⟨_, rfl, _, _, rfl, rfl, ⟨by decide, by decide⟩, _, _, rfl, rfl, (by show (0 : Int) < 7; decide), _, rfl, by omega, by omega, ?_⟩
    refine for_range (lo := 0) (n := (first / 189 % 7).toNat) (fun i σ H' => ∃ (os : List Str) (x10 : Option V), σ = [some (.ref a), some (.int first), x2, x3, x4, x5, x6, x7, some (.int (wd : Int)), some (.ref po), x10, none, none, none, none, none, none, none, none, none] ∧ Same H H' ∧ H' po = some (.lst (os.map V.str)) ∧ os.length = i ∧ ∀ z ∈ os, z.cps.size ≤ 8 ∧ Asc7 (tl z))
      ⟨[], _, rfl, s7.trans e8, g8, rfl, fun _ m => (by cases m)⟩ ?_ ?_
    · rintro i σ Ha hi ⟨os, x10, rfl, sa, ga, los, hos⟩
      refine gName_go ?_
      k_upd
      refine ⟨_, rfl, .inl ⟨rfl, _, lst_of ga⟩, ⟨_, rfl⟩, ?_⟩
      refine ⟨_, rfl, a, ns, 2, rfl, sa.seq hS, ?_⟩
      generalize cellOf ns 2 = z2
      refine ⟨_, rfl, _, _, rfl, rfl, _, rfl, ?_⟩
      refine ⟨_, _, _, rfl, by omega, by omega, by decide, by decide, fun Hb pr xs nr er gr lr br => ?_⟩
      have lr : xs.length = wd := by omega
      refine ⟨pr, rfl, ⟨_, lst_of gr⟩, fun D nD => lc_list (K := K) (a := pr) (xs := xs.map V.int) (fun j H' => Same Hb H' ∧ H' D = some (.lst ((xs.take j).map fun x => V.str ⟨#[if x % 2 = 1 then 79 else 46]⟩))) ⟨newS nD, upd_same⟩ (fun j H' _ p => lst_of (p.1 _ _ gr)) ?_ ?_⟩
      · rintro j x H' hj ⟨sj, gj⟩
        rw [List.getElem?_map] at hj
        obtain ⟨y, hy, rfl⟩ := Option.map_eq_some_iff.mp hj
        have y0 := Int.emod_nonneg y (show (2 : Int) ≠ 0 by decide)
        have y2 := Int.emod_lt_of_pos y (show (0 : Int) < 2 by decide)
        have at2 : atI (Str.ofString ".O").cps.toList (y % 2) = some (if y % 2 = 1 then 79 else 46) := by
          have : y % 2 = 0 ∨ y % 2 = 1 := by omega
          rcases this with e | e <;> rw [e] <;> decide +kernel
        refine ⟨rfl, tyesT ⟨_, rfl, _, _, rfl, rfl, (by show (0 : Int) < 2; decide), _, _, _, rfl, rfl, ?_, at2, _, gj, ?_, mutS sj nD, ?_⟩⟩
        · rw [show (Str.ofString ".O").length = 2 by decide +kernel, sizeLine_eq]
          decide
        · rw [List.length_map, List.length_take, sizeLine_eq]
          omega
        · rw [upd_same, take_next hy, List.map_append]
          rfl
      · rintro Hc ⟨sc, gc⟩
        rw [List.length_map, List.take_length] at gc
        obtain ⟨cs2, ecs2⟩ : ∃ cs2 : List Nat, cs2 = xs.map fun x => if x % 2 = 1 then 79 else 46 := ⟨_, rfl⟩
        have gc2 : Hc D = some (.lst ((cs2.map fun c => (⟨#[c]⟩ : Str)).map V.str)) := by
          rw [gc, ecs2, List.map_map, List.map_map]
          rfl
        have l2 : cs2.length = wd := by rw [ecs2, List.length_map, lr]
        refine ⟨_, _, _, rfl, rfl, .inl (lst_of gc2), by rw [signs_sum]; omega, ?_⟩
        rw [join_signs]
        refine ⟨_, _, _, rfl, rfl, sc _ _ (er _ _ ga), ?_, os ++ [⟨cs2.toArray⟩], _, rfl, mutS (sa.trans (er.trans sc)) npo0, ?_, ?_, fun z m => ?_⟩
        · rw [List.length_map, sizeLine_eq]
          omega
        · rw [upd_same, List.map_append]
          rfl
        · rw [List.length_append, los]
          rfl
        · rcases List.mem_append.mp m with m | m
          · exact hos z m
          · rw [List.mem_singleton.mp m]
            refine ⟨?_, fun c mc => ?_⟩
            · show cs2.toArray.size ≤ 8
              rw [List.size_toArray]
              omega
            · have mc : c ∈ cs2 := by
                have : c ∈ cs2.toArray.toList := mc
                exact this
              rw [ecs2] at mc
              obtain ⟨x, _, rfl⟩ := List.mem_map.mp mc
              split <;> decide
    rintro σ Ha ⟨os, x10, rfl, sa, ga, los, hos⟩
    have los6 : os.length ≤ 6 := by omega
    refine ⟨fun σ' H' => ∃ (zs : List Str) (y2 y3 y4 y5 y6 y7 y10 y11 y12 : Option V), σ' = [some (.ref a), some (.int first), y2, y3, y4, y5, y6, y7, some (.int (wd : Int)), some (.ref po), y10, y11, y12, none, none, none, none, none, none, none] ∧ Same H H' ∧ H' po = some (.lst (zs.map V.str)) ∧ zs.length ≤ 6 ∧ ∀ z ∈ zs, z.cps.size ≤ 20 ∧ Asc7 (tl z), ?_, ?_⟩
    · have q0 := Int.emod_nonneg (first / 1323) (show (3 : Int) ≠ 0 by decide)
      have q7 := Int.emod_lt_of_pos (first / 1323) (show (0 : Int) < 3 by decide)
      refine ⟨_, rfl, _, _, rfl, rfl, ⟨by decide, by decide⟩, _, _, rfl, rfl, (by show (0 : Int) < 3; decide), _, rfl, by omega, by omega, ?_⟩
      refine for_range (lo := 0) (n := (first / 1323 % 3).toNat) (fun i σ H' => ∃ (zs : List Str) (y2 y3 y4 y5 y6 y7 y10 y11 y12 : Option V), σ = [some (.ref a), some (.int first), y2, y3, y4, y5, y6, y7, some (.int (wd : Int)), some (.ref po), y10, y11, y12, none, none, none, none, none, none, none] ∧ Same H H' ∧ H' po = some (.lst (zs.map V.str)) ∧ zs.length ≤ 6 ∧ ∀ z ∈ zs, z.cps.size ≤ 8 + 2 * i ∧ Asc7 (tl z))
        ⟨os, _, _, _, _, _, _, _, _, _, rfl, sa, ga, los6, fun z m => hos z m⟩ ?_ ?_
      · rintro i σ Hb hi ⟨zs, y2, y3, y4, y5, y6, y7, y10, y11, y12, rfl, sb, gb, lzs, hzs⟩
        refine gName_go ?_
        k_upd
        refine ⟨_, rfl, _, rfl, _, _, rfl, rfl, a, ns, 3 + i, ?_, sb.seq hS, _, rfl, ?_⟩
        · show [V.ref a, V.int (3 + (0 + (i : Int)))] = [V.ref a, V.int ((3 + i : Nat) : Int)]
          rw [show (3 + (0 + (i : Int))) = ((3 + i : Nat) : Int) by omega]
        generalize (if cellOf ns (3 + i) < 0 then -cellOf ns (3 + i) else cellOf ns (3 + i)) = x
        refine gName_go ?_
        k_upd
        refine ⟨_, rfl, po, _, rfl, lst_of gb, _, _, rfl, rfl, _, rfl, ite2 (fun c => ?_) (fun c => ?_)⟩
        · have n1 : 0 < zs.length := by
            have := of_decide_eq_true c
            rw [List.length_map] at this
            omega
          have n1' : (0 : Int) < (((zs.map V.str).length : Nat) : Int) := of_decide_eq_true c
          refine ⟨_, rfl, _, rfl, po, _, rfl, lst_of gb, _, _, rfl, rfl, n1', ?_⟩
          have r0 := Int.emod_nonneg x (show (((zs.map V.str).length : Nat) : Int) ≠ 0 by omega)
          have r1 := Int.emod_lt_of_pos x n1'
          obtain ⟨r, er⟩ := Int.eq_ofNat_of_zero_le r0
          refine gName_go ?_
          k_upd
          rw [er]
          have rl : r < zs.length := by
            rw [List.length_map] at r1 er
            omega
          obtain ⟨z, hz⟩ : ∃ z, zs[r]? = some z := ⟨_, List.getElem?_eq_getElem rl⟩
          have hzz := hzs z (List.mem_of_getElem? hz)
          have lz : z.length ≤ sizeLine := by
            rw [sizeLine_eq]
            exact (show z.cps.size ≤ 16777216 by omega)
          have ezl : z.length = z.cps.size := rfl
          refine ⟨_, rfl, _, _, rfl, rfl, ⟨by decide, by decide⟩, _, rfl, _, rfl, po, _, (r : Int), _, rfl, rfl, lst_of gb, strs_at hz, z, rfl, lz, _, _, rfl, rfl, _, _, rfl, rfl, (by show (0 : Int) < ((z.length : Nat) : Int) + 1; omega), ?_⟩
          have a0 := Int.emod_nonneg (x / 7) (show ((z.length : Nat) : Int) + 1 ≠ 0 by omega)
          have a1 := Int.emod_lt_of_pos (x / 7) (show (0 : Int) < ((z.length : Nat) : Int) + 1 by omega)
          refine gName_go ?_
          k_upd
          generalize x / 7 % (((z.length : Nat) : Int) + 1) = at1 at a0 a1
          refine ⟨_, rfl, _, rfl, po, _, (r : Int), _, rfl, rfl, lst_of gb, strs_at hz, _, rfl, _, rfl, z, rfl, lz, (by k_clsL), fun pl npl => ?_⟩
          k_invariant "new" (npl, Hc, ec, gc)
          have pick : ∃ nv : Str, atI [V.str (Str.ofString " "), V.str (Str.ofString "o"), V.str (Str.ofString "OO"), V.str (Str.ofString ""), V.str (Str.ofString "."), V.str (Str.ofString "x.")] (x / 70 % 6) = some (.str nv) ∧ (tl nv).length ≤ 2 ∧ Asc7 (tl nv) := by
            have z0 := Int.emod_nonneg (x / 70) (show (6 : Int) ≠ 0 by decide)
            have z1 := Int.emod_lt_of_pos (x / 70) (show (0 : Int) < 6 by decide)
            generalize x / 70 % 6 = j at z0 z1
            have : j = 0 ∨ j = 1 ∨ j = 2 ∨ j = 3 ∨ j = 4 ∨ j = 5 := by omega
            rcases this with rfl | rfl | rfl | rfl | rfl | rfl
            · exact ⟨_, rfl, by decide +kernel, asc_of (by decide +kernel)⟩
            · exact ⟨_, rfl, by decide +kernel, asc_of (by decide +kernel)⟩
            · exact ⟨_, rfl, by decide +kernel, asc_of (by decide +kernel)⟩
            · exact ⟨_, rfl, by decide +kernel, asc_of (by decide +kernel)⟩
            · exact ⟨_, rfl, by decide +kernel, asc_of (by decide +kernel)⟩
            · exact ⟨_, rfl, by decide +kernel, asc_of (by decide +kernel)⟩
          obtain ⟨nv, hnv, lnv, asnv⟩ := pick
          have k0 := Int.emod_nonneg (x / 420) (show (2 : Int) ≠ 0 by decide)
          have cl := tl_lo z a0
          have ch := tl_hi z (k := at1 + x / 420 % 2) (by omega)
          have cl2 := congrArg List.length cl
          have ch2 := congrArg List.length ch
          rw [← len_tl, List.length_take, ← len_tl] at cl2
          rw [← len_tl, List.length_drop, ← len_tl] at ch2
          rw [← len_tl] at lnv
          refine ⟨_, rfl, _, _, rfl, rfl, ⟨by decide, by decide⟩, _, _, rfl, rfl, (by show (0 : Int) < 6; decide), _, _, _, .str nv, rfl, rfl, lst_of gc, hnv, _, _, rfl, rfl, ?_, _, rfl, _, rfl, po, _, (r : Int), _, rfl, rfl, lst_of (ec _ _ gb), strs_at hz, _, rfl, _, rfl, _, _, rfl, rfl, ⟨by decide, by decide⟩, _, _, rfl, rfl, (by show (0 : Int) < 2; decide), _, _, rfl, rfl, _, rfl, z, rfl, lz, _, _, rfl, rfl, ?_, ?_⟩
          · rw [sizeLine_eq]
            exact (show (cutS z none (some at1)).length + nv.length ≤ 16777216 by omega)
          · rw [len_app, sizeLine_eq]
            exact (show (cutS z none (some at1)).length + nv.length + (cutS z (some (at1 + x / 420 % 2)) none).length ≤ 16777216 by omega)
          have ixr : ixN (zs.map V.str).length (r : Int) = some r := by
            unfold ixN
            rw [if_pos (by omega), if_pos (by rw [List.length_map]; omega)]
            rfl
          refine ⟨_, rfl, _, rfl, _, _, _, _, rfl, rfl, ec _ _ gb, ixr, ?_⟩
          refine ⟨zs.set r (cutS z none (some at1) ++ nv ++ cutS z (some (at1 + x / 420 % 2)) none), _, _, _, _, _, _, _, _, _, rfl, mutS (sb.trans ec) npo0, ?_, by rw [List.length_set]; exact lzs, fun z' m => ?_⟩
          · rw [upd_same, List.map_set]
          · rcases List.mem_or_eq_of_mem_set m with m | e
            · exact ⟨by have := (hzs z' m).1; omega, (hzs z' m).2⟩
            · rw [e]
              constructor
              · have : (cutS z none (some at1) ++ nv ++ cutS z (some (at1 + x / 420 % 2)) none).length ≤ 8 + 2 * (i + 1) := by
                  rw [len_app, len_app]
                  omega
                exact this
              · rw [tl_append, tl_append, cl, ch]
                exact asc_app (asc_app (fun x m => hzz.2 x (List.mem_of_mem_take m)) asnv) fun x m => hzz.2 x (List.mem_of_mem_drop m)
        · exact ⟨zs, _, _, _, _, _, _, _, _, _, rfl, sb, gb, lzs, fun z m => ⟨by have := (hzs z m).1; omega, (hzs z m).2⟩⟩
      · rintro σ Hb ⟨zs, y2, y3, y4, y5, y6, y7, y10, y11, y12, rfl, sb, gb, lzs, hzs⟩
        exact ⟨zs, _, _, _, _, _, _, _, _, _, rfl, sb, gb, lzs, fun z m => ⟨by have := (hzs z m).1; omega, (hzs z m).2⟩⟩
    rintro σ' Hb ⟨zs, y2, y3, y4, y5, y6, y7, y10, y11, y12, rfl, sb, gb, lzs, hzs⟩
    have zok : ∀ z ∈ zs, PyData.strOk z = true := fun z m => asc_ok (hzs z m).2
    have shz : SeqAt.shaped (.list (zs.map PyData.str)) = true := shaped_strs zok
    have eqz : PyData.eqv (.list (zs.map PyData.str)) (.list (zs.map PyData.str)) = true := PySem.SeqAt.eqv_refl _ (by unfold SeqAt.shaped at shz; exact (Bool.and_eq_true_iff.mp shz).1)
    refine ⟨_, rfl, po, zs, rfl, gb, by omega, fun z m => by have := (hzs z m).1; omega, fun x hx Hc p f t np ec gp gt => ?_, fun hno Hc p f np ec gp hf => ?_⟩
    · refine ⟨p, _, rfl, tup_of gp, rfl, _, _, rfl, _, _, rfl, rfl, ?_⟩
      k_upd
      refine ⟨_, rfl, po, _, rfl, lst_of (ec _ _ gb), fun ph nph => ?_⟩
      k_invariant "new" (nph, Hd, ed, gd)
      refine gName_go ?_
      k_upd
      have gbd := ed _ _ (ec _ _ gb)
      have gtd := ed _ _ gt
      refine ⟨_, rfl, ph, zs, rfl, gd, by omega, fun z m => by have := (hzs z m).1; omega, fun y hy He dd ee ge => ?_, fun hno => absurd (hno.symm.trans hx) (fun z => by cases z)⟩
      obtain rfl : y = x := Option.some.inj (hy.symm.trans hx)
      refine ⟨true, T.exm, fun _ ex hex => ?_, fun q => Bool.noConfusion q⟩
      have gte := ee _ _ gtd
      have gbe := ee _ _ gbd
      have gde := ee _ _ gd
      refine ⟨_, rfl, rfl, ⟨dd, _, rfl, ge⟩, _, _, false, rfl, fun u e => e, T.kitT, _, rfl, iteF ?_⟩
      refine ⟨_, rfl, rfl, ⟨dd, _, rfl, ge⟩, _, _, false, rfl, fun u e => e, T.kitP, _, rfl, iteF ?_⟩
      refine ⟨_, rfl, rfl, ⟨dd, _, rfl, ge⟩, _, _, true, rfl, fun u e => e, T.kitV, ?_⟩
      refine ⟨_, rfl, ?_⟩
      refine gName_go ?_
      k_upd
      refine ⟨_, rfl, trivial, ⟨dd, _, rfl, ge⟩, _, _, true, rfl, fun u e => e, T.kitR, _, rfl, iteT ?_⟩
      refine ⟨_, rfl, _, rfl, _, rfl, iteT ?_⟩
      refine ⟨_, rfl, rfl, rfl, dd, _, _, rfl, ge, rfl, _, rfl, rfl, rfl, dd, _, _, rfl, ge, rfl, (by k_clsL), fun tt ntt => ?_⟩
      k_invariant "new" (ntt, Hf, ef, gf)
      have ep : PyData.eqv (pd y) (pd y) = true := PySem.SeqAt.eqv_refl _ (by have := shaped_pd y; unfold SeqAt.shaped at this; exact (Bool.and_eq_true_iff.mp this).1)
      refine ⟨_, rfl, pd y, pd y, .tup (tup_of gf) (.cons (.int _) (.cons (.int _) .nil)), .tup (tup_of (ef _ _ gte)) (.cons (.int _) (.cons (.int _) .nil)), shaped_pd y, shaped_pd y, ?_⟩
      rw [ep]
      refine ⟨_, rfl, iteT ?_⟩
      refine ⟨_, rfl, _, rfl, _, _, .lst (lst_of (ef _ _ gde)) (dpAll_strs zs), .lst (lst_of (ef _ _ gbe)) (dpAll_strs zs), shz, shz, ?_⟩
      rw [eqz]
      exact q _
    · refine ⟨p, _, rfl, tup_of gp, rfl, _, _, rfl, _, _, rfl, rfl, ?_⟩
      k_upd
      refine ⟨_, rfl, po, _, rfl, lst_of (ec _ _ gb), fun ph nph => ?_⟩
      k_invariant "new" (nph, Hd, ed, gd)
      refine gName_go ?_
      k_upd
      have gbd := ed _ _ (ec _ _ gb)
      have hfd := hf.up ed
      refine ⟨_, rfl, ph, zs, rfl, gd, by omega, fun z m => by have := (hzs z m).1; omega, fun y hy => absurd (hno.symm.trans hy) (fun z => by cases z), fun _ He pr nr ee hr => ?_⟩
      refine gName_go ?_
      k_upd
      have hre : Cells He pr (liveT zs zs.length) := hr
      refine ⟨_, rfl, rfl, _, rfl, iteT ?_⟩
      refine ⟨_, rfl, pr, _, rfl, hre, liveT_asc _ _, fun Hf ef => ⟨_, rfl, iteT ?_⟩⟩
      refine ⟨_, rfl, _, rfl, _, _, dp_cells (hre.up ef), dp_cells ((hfd.up ee).up ef), shaped_cells _, shaped_cells _, ?_⟩
      rw [eqv_cells, decide_eq_true rfl]
      refine ⟨_, rfl, iteT ?_⟩
      refine ⟨_, rfl, _, rfl, _, _, .lst (lst_of (ef _ _ (ee _ _ gd))) (dpAll_strs zs), .lst (lst_of (ef _ _ (ee _ _ gbd))) (dpAll_strs zs), shz, shz, ?_⟩
      rw [eqz]
      exact q _
end
end My
namespace My
open PySem PySem.Spec PyProof.Rows L2 Vx
theorem all_mk {l : PySem.W.OpenLaw} {w : World} {K : PySem.W.Frag} {h : Heap} {mg : Str → Option Value} {fa : Addr} (X : K.In h) (G : h.Ns mainGlobals mg) (hfa : mg "law" = some (.ref fa))
    {f_pattern : Addr} {odpattern anpattern : Option Addr} {slpattern : Array (Option Value)} {ocpattern kVpattern dcpattern pmpattern cdpattern ctpattern : Value}
    {f_moved : Addr} {odmoved anmoved : Option Addr} {slmoved : Array (Option Value)} {ocmoved kVmoved dcmoved pmmoved cdmoved ctmoved : Value}
    {f_home : Addr} {odhome anhome : Option Addr} {slhome : Array (Option Value)} {ochome kVhome dchome pmhome cdhome cthome : Value}
    {f_read_picture : Addr} {odread_picture anread_picture : Option Addr} {slread_picture : Array (Option Value)} {ocread_picture kVread_picture dcread_picture pmread_picture cdread_picture ctread_picture : Value}
    {f_check_string : Addr} {odcheck_string ancheck_string : Option Addr} {slcheck_string : Array (Option Value)} {occheck_string kVcheck_string dccheck_string pmcheck_string cdcheck_string ctcheck_string : Value}
    {f_picture : Addr} {odpicture anpicture : Option Addr} {slpicture : Array (Option Value)} {ocpicture kVpicture dcpicture pmpicture cdpicture ctpicture : Value}
    {f_law_cell : Addr} {odlaw_cell anlaw_cell : Option Addr} {sllaw_cell : Array (Option Value)} {oclaw_cell kVlaw_cell dclaw_cell pmlaw_cell cdlaw_cell ctlaw_cell : Value}
    {f_law_row : Addr} {odlaw_row anlaw_row : Option Addr} {sllaw_row : Array (Option Value)} {oclaw_row kVlaw_row dclaw_row pmlaw_row cdlaw_row ctlaw_row : Value}
    {f_law_integer : Addr} {odlaw_integer anlaw_integer : Option Addr} {sllaw_integer : Array (Option Value)} {oclaw_integer kVlaw_integer dclaw_integer pmlaw_integer cdlaw_integer ctlaw_integer : Value}
    {f_law_cells : Addr} {odlaw_cells anlaw_cells : Option Addr} {sllaw_cells : Array (Option Value)} {oclaw_cells kVlaw_cells dclaw_cells pmlaw_cells cdlaw_cells ctlaw_cells : Value}
    {f_law_some : Addr} {odlaw_some anlaw_some : Option Addr} {sllaw_some : Array (Option Value)} {oclaw_some kVlaw_some dclaw_some pmlaw_some cdlaw_some ctlaw_some : Value}
    {f_law_due : Addr} {odlaw_due anlaw_due : Option Addr} {sllaw_due : Array (Option Value)} {oclaw_due kVlaw_due dclaw_due pmlaw_due cdlaw_due ctlaw_due : Value}
    {f_law : Addr} {odlaw anlaw : Option Addr} {sllaw : Array (Option Value)} {oclaw kVlaw dclaw pmlaw cdlaw ctlaw : Value}
    {uALIVE : Tok}
    {uDEAD : Tok}
    {C_InvalidRule : Addr}
    {C_LifeError : Addr}
    {C_InvalidText : Addr}
    {C_InvalidPicture : Addr}
    {f_IP : Addr}
    {cc_IP : Addr}
    {cdaIP : Addr}
    {NIP : Addr}
    {nmIP qIP fileIP : Str} {bsIP bmIP subIP : List Value} {snIP : List Str} {abIP : Bool} {colIP : Option Bool} {ddIP odIP anIP cddIP cldIP : Option Addr} {k0IP k1IP k2IP k3IP k5IP : Option Value} {ocIP kVIP dcIP pmIP ctIP cclIP clIP2 : Value} {slIP ccsIP cslIP : Array (Option Value)} {vsIP : Array Value} {tfkIP : Tok} {cdDIP : ClassData}
    (apattern : PySem.W.nsIn K mainGlobals "pattern" = some (some (.ref f_pattern)))
    (lpattern : K.lookup f_pattern = some ⟨ocpattern, odpattern, .func (PySem.W.fnOf "pattern" "pattern" (defArgs s_pattern) (defBody s_pattern) (defScope s_pattern) .none kVpattern dcpattern pmpattern anpattern cdpattern ctpattern), slpattern⟩)
    (cpattern : PySem.W.codeIn K cdpattern "pattern" = true)
    (kpattern : PySem.W.keepIn K (.ref f_pattern) = true)
    (amoved : PySem.W.nsIn K mainGlobals "moved" = some (some (.ref f_moved)))
    (lmoved : K.lookup f_moved = some ⟨ocmoved, odmoved, .func (PySem.W.fnOf "moved" "moved" (defArgs s_moved) (defBody s_moved) (defScope s_moved) .none kVmoved dcmoved pmmoved anmoved cdmoved ctmoved), slmoved⟩)
    (cmoved : PySem.W.codeIn K cdmoved "moved" = true)
    (kmoved : PySem.W.keepIn K (.ref f_moved) = true)
    (ahome : PySem.W.nsIn K mainGlobals "home" = some (some (.ref f_home)))
    (lhome : K.lookup f_home = some ⟨ochome, odhome, .func (PySem.W.fnOf "home" "home" (defArgs s_home) (defBody s_home) (defScope s_home) .none kVhome dchome pmhome anhome cdhome cthome), slhome⟩)
    (chome : PySem.W.codeIn K cdhome "home" = true)
    (khome : PySem.W.keepIn K (.ref f_home) = true)
    (aread_picture : PySem.W.nsIn K mainGlobals "read_picture" = some (some (.ref f_read_picture)))
    (lread_picture : K.lookup f_read_picture = some ⟨ocread_picture, odread_picture, .func (PySem.W.fnOf "read_picture" "read_picture" (defArgs s_read_picture) (defBody s_read_picture) (defScope s_read_picture) .none kVread_picture dcread_picture pmread_picture anread_picture cdread_picture ctread_picture), slread_picture⟩)
    (cread_picture : PySem.W.codeIn K cdread_picture "read_picture" = true)
    (kread_picture : PySem.W.keepIn K (.ref f_read_picture) = true)
    (acheck_string : PySem.W.nsIn K mainGlobals "_check_string" = some (some (.ref f_check_string)))
    (lcheck_string : K.lookup f_check_string = some ⟨occheck_string, odcheck_string, .func (PySem.W.fnOf "_check_string" "_check_string" (defArgs s_check_string) (defBody s_check_string) (defScope s_check_string) .none kVcheck_string dccheck_string pmcheck_string ancheck_string cdcheck_string ctcheck_string), slcheck_string⟩)
    (ccheck_string : PySem.W.codeIn K cdcheck_string "_check_string" = true)
    (kcheck_string : PySem.W.keepIn K (.ref f_check_string) = true)
    (apicture : PySem.W.nsIn K mainGlobals "picture" = some (some (.ref f_picture)))
    (lpicture : K.lookup f_picture = some ⟨ocpicture, odpicture, .func (PySem.W.fnOf "picture" "picture" (defArgs s_picture) (defBody s_picture) (defScope s_picture) .none kVpicture dcpicture pmpicture anpicture cdpicture ctpicture), slpicture⟩)
    (cpicture : PySem.W.codeIn K cdpicture "picture" = true)
    (kpicture : PySem.W.keepIn K (.ref f_picture) = true)
    (alaw_cell : PySem.W.nsIn K mainGlobals "_law_cell" = some (some (.ref f_law_cell)))
    (llaw_cell : K.lookup f_law_cell = some ⟨oclaw_cell, odlaw_cell, .func (PySem.W.fnOf "_law_cell" "_law_cell" (defArgs s_law_cell) (defBody s_law_cell) (defScope s_law_cell) .none kVlaw_cell dclaw_cell pmlaw_cell anlaw_cell cdlaw_cell ctlaw_cell), sllaw_cell⟩)
    (claw_cell : PySem.W.codeIn K cdlaw_cell "_law_cell" = true)
    (klaw_cell : PySem.W.keepIn K (.ref f_law_cell) = true)
    (alaw_row : PySem.W.nsIn K mainGlobals "_law_row" = some (some (.ref f_law_row)))
    (llaw_row : K.lookup f_law_row = some ⟨oclaw_row, odlaw_row, .func (PySem.W.fnOf "_law_row" "_law_row" (defArgs s_law_row) (defBody s_law_row) (defScope s_law_row) .none kVlaw_row dclaw_row pmlaw_row anlaw_row cdlaw_row ctlaw_row), sllaw_row⟩)
    (claw_row : PySem.W.codeIn K cdlaw_row "_law_row" = true)
    (klaw_row : PySem.W.keepIn K (.ref f_law_row) = true)
    (alaw_integer : PySem.W.nsIn K mainGlobals "_law_integer" = some (some (.ref f_law_integer)))
    (llaw_integer : K.lookup f_law_integer = some ⟨oclaw_integer, odlaw_integer, .func (PySem.W.fnOf "_law_integer" "_law_integer" (defArgs s_law_integer) (defBody s_law_integer) (defScope s_law_integer) .none kVlaw_integer dclaw_integer pmlaw_integer anlaw_integer cdlaw_integer ctlaw_integer), sllaw_integer⟩)
    (claw_integer : PySem.W.codeIn K cdlaw_integer "_law_integer" = true)
    (klaw_integer : PySem.W.keepIn K (.ref f_law_integer) = true)
    (alaw_cells : PySem.W.nsIn K mainGlobals "_law_cells" = some (some (.ref f_law_cells)))
    (llaw_cells : K.lookup f_law_cells = some ⟨oclaw_cells, odlaw_cells, .func (PySem.W.fnOf "_law_cells" "_law_cells" (defArgs s_law_cells) (defBody s_law_cells) (defScope s_law_cells) .none kVlaw_cells dclaw_cells pmlaw_cells anlaw_cells cdlaw_cells ctlaw_cells), sllaw_cells⟩)
    (claw_cells : PySem.W.codeIn K cdlaw_cells "_law_cells" = true)
    (klaw_cells : PySem.W.keepIn K (.ref f_law_cells) = true)
    (alaw_some : PySem.W.nsIn K mainGlobals "_law_some" = some (some (.ref f_law_some)))
    (llaw_some : K.lookup f_law_some = some ⟨oclaw_some, odlaw_some, .func (PySem.W.fnOf "_law_some" "_law_some" (defArgs s_law_some) (defBody s_law_some) (defScope s_law_some) .none kVlaw_some dclaw_some pmlaw_some anlaw_some cdlaw_some ctlaw_some), sllaw_some⟩)
    (claw_some : PySem.W.codeIn K cdlaw_some "_law_some" = true)
    (klaw_some : PySem.W.keepIn K (.ref f_law_some) = true)
    (alaw_due : PySem.W.nsIn K mainGlobals "_law_due" = some (some (.ref f_law_due)))
    (llaw_due : K.lookup f_law_due = some ⟨oclaw_due, odlaw_due, .func (PySem.W.fnOf "_law_due" "_law_due" (defArgs s_law_due) (defBody s_law_due) (defScope s_law_due) .none kVlaw_due dclaw_due pmlaw_due anlaw_due cdlaw_due ctlaw_due), sllaw_due⟩)
    (claw_due : PySem.W.codeIn K cdlaw_due "_law_due" = true)
    (klaw_due : PySem.W.keepIn K (.ref f_law_due) = true)
    (alaw : PySem.W.nsIn K mainGlobals "law" = some (some (.ref f_law)))
    (llaw : K.lookup f_law = some ⟨oclaw, odlaw, .func (PySem.W.fnOf "law" "law" (defArgs s_law) (defBody s_law) (defScope s_law) .none kVlaw dclaw pmlaw anlaw cdlaw ctlaw), sllaw⟩)
    (claw : PySem.W.codeIn K cdlaw "law" = true)
    (klaw : PySem.W.keepIn K (.ref f_law) = true)
    (zsorted : PySem.W.nsIn K mainGlobals "sorted" = some none)
    (zset : PySem.W.nsIn K mainGlobals "set" = some none)
    (zmin : PySem.W.nsIn K mainGlobals "min" = some none)
    (zenumerate : PySem.W.nsIn K mainGlobals "enumerate" = some none)
    (zlen : PySem.W.nsIn K mainGlobals "len" = some none)
    (zmax : PySem.W.nsIn K mainGlobals "max" = some none)
    (zrange : PySem.W.nsIn K mainGlobals "range" = some none)
    (zint : PySem.W.nsIn K mainGlobals "int" = some none)
    (zabs : PySem.W.nsIn K mainGlobals "abs" = some none)
    (zisinstance : PySem.W.nsIn K mainGlobals "isinstance" = some none)
    (zbool : PySem.W.nsIn K mainGlobals "bool" = some none)
    (zlist : PySem.W.nsIn K mainGlobals "list" = some none)
    (ztuple : PySem.W.nsIn K mainGlobals "tuple" = some none)
    (zValueError : PySem.W.nsIn K mainGlobals "ValueError" = some none)
    (xALIVE : PySem.W.nsIn K mainGlobals "ALIVE" = some (some (.str (Str.ofString "O") uALIVE)))
    (xDEAD : PySem.W.nsIn K mainGlobals "DEAD" = some (some (.str (Str.ofString ".") uDEAD)))
    (aIR : PySem.W.nsIn K mainGlobals "InvalidRule" = some (some (.ref C_InvalidRule)))
    (aLE : PySem.W.nsIn K mainGlobals "LifeError" = some (some (.ref C_LifeError)))
    (aIT : PySem.W.nsIn K mainGlobals "InvalidText" = some (some (.ref C_InvalidText)))
    (aIP : PySem.W.nsIn K mainGlobals "InvalidPicture" = some (some (.ref C_InvalidPicture)))
    (sII : PySem.W.subIn K (.ref C_InvalidPicture) (.ref C_InvalidPicture) = some true)
    (sIT : PySem.W.subIn K (.ref C_InvalidPicture) (.ref C_InvalidText) = some false)
    (sIP : PySem.W.subIn K (.ref C_InvalidPicture) (.ref C_InvalidRule) = some false)
    (sIL : PySem.W.subIn K (.ref C_InvalidPicture) (.ref C_LifeError) = some true)
    (sIV : PySem.W.subIn K (.ref C_InvalidPicture) (.type "ValueError") = some true)
    (oInvalidRule : PySem.W.isClsIn K C_InvalidRule = true)
    (yInvalidRule : PySem.W.typeIn K (.ref C_InvalidRule) = some (.type "type"))
    (oInvalidText : PySem.W.isClsIn K C_InvalidText = true)
    (yInvalidText : PySem.W.typeIn K (.ref C_InvalidText) = some (.type "type"))
    (oInvalidPicture : PySem.W.isClsIn K C_InvalidPicture = true)
    (yInvalidPicture : PySem.W.typeIn K (.ref C_InvalidPicture) = some (.type "type"))
    (bLE : PySem.W.subIn K (.ref C_LifeError) (.type "BaseException") = some true)
    (dLE : PySem.W.hasDictIn K C_LifeError = true)
    (tLE : PySem.W.typeIn K (.ref C_LifeError) = some (.type "type"))
    (eHg : PySem.W.findIn K (.ref C_InvalidPicture) "__getattribute__" = some (some (.builtin "BaseException.__getattribute__")))
    (eHk : PySem.W.findIn K (.ref C_InvalidPicture) "__getattr__" = some none)
    (eHd : PySem.W.hasDictIn K C_InvalidPicture = true)
    (eHa : PySem.W.findIn K (.ref C_InvalidPicture) "__class__" = some (some (.builtin "object.__class__")))
    (eHn : PySem.W.specialIn K (.builtin "object.__class__") "__get__" = some (some (.builtin "getset_descriptor.__get__")))
    (eHt : PySem.W.takesIn K (.builtin "object.__class__") = some true)
    (eHm : PySem.W.mroIn K C_InvalidPicture (.type "object") = some true)
    (kIR : PySem.W.keepIn K (.ref C_InvalidPicture) = true)
    (bIR : PySem.W.subIn K (.ref C_InvalidPicture) (.type "BaseException") = some true)
    (tIR : PySem.W.typeIn K (.ref C_InvalidPicture) = some (.type "type"))
    (clIP : K.lookup C_InvalidPicture = some (excClassObj nmIP qIP C_InvalidPicture NIP bsIP bmIP true snIP subIP abIP colIP ddIP k0IP k1IP k2IP k3IP k5IP "ValueError.__new__"))
    (vmIP : PySem.HandSPX.refsVE bmIP = true)
    (saIP : PySem.W.findIn K (.ref C_InvalidPicture) "__setattr__" = some (some (.builtin "object.__setattr__")))
    (inIP : PySem.W.findIn K (.ref C_InvalidPicture) "__init__" = some (some (.ref f_IP)))
    (lfIP : K.lookup f_IP = some ⟨ocIP, odIP, .func (PySem.W.ksFn "__init__" "InvalidPicture.__init__" (defArgs s_InvalidPicture_init) (defBody s_InvalidPicture_init) (defScope s_InvalidPicture_init) .none kVIP dcIP pmIP anIP (.ref cdaIP) ctIP cc_IP), slIP⟩)
    (coIP : PySem.W.codeIn K (.ref cdaIP) "InvalidPicture.__init__" = true)
    (lcdIP : K.lookup cdaIP = some ⟨cclIP, cddIP, .fields vsIP, ccsIP⟩)
    (v2IP : vsIP[2]? = some (.str fileIP tfkIP))
    (fileIP2 : ((l.prog.main.file : Str) == fileIP) = true)
    (lccIP : K.lookup cc_IP = some ⟨clIP2, cldIP, .cell (some (.ref C_InvalidPicture)), cslIP⟩)
    (csIP : PySem.W.clsIn K C_InvalidPicture = some cdDIP)
    (mrIP : PySem.W.mroIn K C_InvalidPicture (.ref C_InvalidPicture) = some true)
    (topIP : (l.prog.main.scope.names.lookup ("super" : Str)).isSome = false)
    (suIP : PySem.W.ks_superIn K C_InvalidPicture C_InvalidPicture "__init__" = some (some (.builtin "ValueError.__init__")))
    (opIP : PySem.W.nsIn K cStatics "thirdparty.any" = some none)
    (zsIP : PySem.W.nsIn K mainGlobals "super" = some none)
    (tfnIP : PySem.W.typeIn K (.ref f_IP) = some (.type "function"))
    (nrIP : PySem.W.findIn K (.ref C_InvalidPicture) "row" = some none)
    (ncIP : PySem.W.findIn K (.ref C_InvalidPicture) "column" = some none) :
    ∃ fd : FuncData, (∀ (s : Shared) (v : Value), BindsTo s fd ⟨[v], []⟩ [("script", v)]) ∧ ∀ base : Heap, K.In base → base.Ns mainGlobals mg → FnOk l.prog w K mg base CX0 5 fa fd ["script"] (sp_law K) := by
  have e := hfa.symm.trans (PySem.W.mg_of X G alaw)
  cases e
  have F_pattern := fun_mk (st := s_pattern) lpattern cpattern kpattern
  have b_pattern := F_pattern.binds (ps := ["cells"]) fun _ _ _ _ _ _ us hl => match us, hl with | [_], _ => rfl
  have F_moved := fun_mk (st := s_moved) lmoved cmoved kmoved
  have b_moved := F_moved.binds (ps := ["cells", "rows", "columns"]) fun _ _ _ _ _ _ us hl => match us, hl with | [_, _, _], _ => rfl
  have F_home := fun_mk (st := s_home) lhome chome khome
  have b_home := F_home.binds (ps := ["cells"]) fun _ _ _ _ _ _ us hl => match us, hl with | [_], _ => rfl
  have F_read_picture := fun_mk (st := s_read_picture) lread_picture cread_picture kread_picture
  have b_read_picture := F_read_picture.binds (ps := ["strings"]) fun _ _ _ _ _ _ us hl => match us, hl with | [_], _ => rfl
  have F_check_string := fun_mk (st := s_check_string) lcheck_string ccheck_string kcheck_string
  have b_check_string := F_check_string.binds (ps := ["row", "string", "width"]) fun _ _ _ _ _ _ us hl => match us, hl with | [_, _, _], _ => rfl
  have F_picture := fun_mk (st := s_picture) lpicture cpicture kpicture
  have b_picture := F_picture.binds (ps := ["cells"]) fun _ _ _ _ _ _ us hl => match us, hl with | [_], _ => rfl
  have F_law_cell := fun_mk (st := s_law_cell) llaw_cell claw_cell klaw_cell
  have b_law_cell := F_law_cell.binds (ps := ["script", "k"]) fun _ _ _ _ _ _ us hl => match us, hl with | [_, _], _ => rfl
  have F_law_row := fun_mk (st := s_law_row) llaw_row claw_row klaw_row
  have b_law_row := F_law_row.binds (ps := ["cell", "count", "bound"]) fun _ _ _ _ _ _ us hl => match us, hl with | [_, _, _], _ => rfl
  have F_law_integer := fun_mk (st := s_law_integer) llaw_integer claw_integer klaw_integer
  have b_law_integer := F_law_integer.binds (ps := ["value"]) fun _ _ _ _ _ _ us hl => match us, hl with | [_], _ => rfl
  have F_law_cells := fun_mk (st := s_law_cells) llaw_cells claw_cells klaw_cells
  have b_law_cells := F_law_cells.binds (ps := ["value"]) fun _ _ _ _ _ _ us hl => match us, hl with | [_], _ => rfl
  have F_law_some := fun_mk (st := s_law_some) llaw_some claw_some klaw_some
  have b_law_some := F_law_some.binds (ps := ["cell", "count", "height", "width"]) fun _ _ _ _ _ _ us hl => match us, hl with | [_, _, _, _], _ => rfl
  have F_law_due := fun_mk (st := s_law_due) llaw_due claw_due klaw_due
  have b_law_due := F_law_due.binds (ps := ["strings"]) fun _ _ _ _ _ _ us hl => match us, hl with | [_], _ => rfl
  have F_law := fun_mk (st := s_law) llaw claw klaw
  have b_law := F_law.binds (ps := ["script"]) fun _ _ _ _ _ _ us hl => match us, hl with | [_], _ => rfl
  let T : Txt l.prog K mg := {
    f_pattern := f_pattern,
    d_pattern := _,
    F_pattern := F_pattern,
    b_pattern := b_pattern,
    g_pattern := PySem.W.mg_of X G apattern,
    f_moved := f_moved,
    d_moved := _,
    F_moved := F_moved,
    b_moved := b_moved,
    g_moved := PySem.W.mg_of X G amoved,
    f_home := f_home,
    d_home := _,
    F_home := F_home,
    b_home := b_home,
    g_home := PySem.W.mg_of X G ahome,
    f_read_picture := f_read_picture,
    d_read_picture := _,
    F_read_picture := F_read_picture,
    b_read_picture := b_read_picture,
    g_read_picture := PySem.W.mg_of X G aread_picture,
    f_check_string := f_check_string,
    d_check_string := _,
    F_check_string := F_check_string,
    b_check_string := b_check_string,
    g_check_string := PySem.W.mg_of X G acheck_string,
    f_picture := f_picture,
    d_picture := _,
    F_picture := F_picture,
    b_picture := b_picture,
    g_picture := PySem.W.mg_of X G apicture,
    f_law_cell := f_law_cell,
    d_law_cell := _,
    F_law_cell := F_law_cell,
    b_law_cell := b_law_cell,
    g_law_cell := PySem.W.mg_of X G alaw_cell,
    f_law_row := f_law_row,
    d_law_row := _,
    F_law_row := F_law_row,
    b_law_row := b_law_row,
    g_law_row := PySem.W.mg_of X G alaw_row,
    f_law_integer := f_law_integer,
    d_law_integer := _,
    F_law_integer := F_law_integer,
    b_law_integer := b_law_integer,
    g_law_integer := PySem.W.mg_of X G alaw_integer,
    f_law_cells := f_law_cells,
    d_law_cells := _,
    F_law_cells := F_law_cells,
    b_law_cells := b_law_cells,
    g_law_cells := PySem.W.mg_of X G alaw_cells,
    f_law_some := f_law_some,
    d_law_some := _,
    F_law_some := F_law_some,
    b_law_some := b_law_some,
    g_law_some := PySem.W.mg_of X G alaw_some,
    f_law_due := f_law_due,
    d_law_due := _,
    F_law_due := F_law_due,
    b_law_due := b_law_due,
    g_law_due := PySem.W.mg_of X G alaw_due,
    f_law := fa,
    d_law := _,
    F_law := F_law,
    b_law := b_law,
    g_law := PySem.W.mg_of X G alaw,
    z_sorted := PySem.W.mg_none_of X G zsorted,
    z_set := PySem.W.mg_none_of X G zset,
    z_min := PySem.W.mg_none_of X G zmin,
    z_enumerate := PySem.W.mg_none_of X G zenumerate,
    z_len := PySem.W.mg_none_of X G zlen,
    z_max := PySem.W.mg_none_of X G zmax,
    z_range := PySem.W.mg_none_of X G zrange,
    z_int := PySem.W.mg_none_of X G zint,
    z_abs := PySem.W.mg_none_of X G zabs,
    z_isinstance := PySem.W.mg_none_of X G zisinstance,
    z_bool := PySem.W.mg_none_of X G zbool,
    z_list := PySem.W.mg_none_of X G zlist,
    z_tuple := PySem.W.mg_none_of X G ztuple,
    z_ValueError := PySem.W.mg_none_of X G zValueError,
    c_ALIVE := ⟨_, PySem.W.mg_of X G xALIVE, ⟨_, rfl⟩⟩,
    c_DEAD := ⟨_, PySem.W.mg_of X G xDEAD, ⟨_, rfl⟩⟩,
    C_InvalidRule := C_InvalidRule,
    C_LifeError := C_LifeError,
    C_InvalidText := C_InvalidText,
    C_InvalidPicture := C_InvalidPicture,
    g_InvalidRule := PySem.W.mg_of X G aIR,
    g_LifeError := PySem.W.mg_of X G aLE,
    g_InvalidText := PySem.W.mg_of X G aIT,
    g_InvalidPicture := PySem.W.mg_of X G aIP,
    exm := PySem.W.exm_ref bLE dLE tLE sIL,
    kitT := kit_sub oInvalidText yInvalidText sII sIT,
    kitP := kit_sub oInvalidRule yInvalidRule sII sIP,
    kitR := kit_sub oInvalidPicture yInvalidPicture sII sII,
    kitV := kit_ve sIV,
    excC := ⟨eHg, eHk, bIR, eHd, eHa, eHn, eHt, eHm⟩,
    f_IP := f_IP,
    d_IP := _,
    cc_IP := cc_IP,
    cd_IP := .ref cdaIP,
    fnIP := ⟨_, _, _, _, _, _, _, _, _, rfl, lfIP⟩,
    supIP := ⟨⟨_, rfl, rfl⟩, coIP, ⟨_, _, _, _, _, _, _, rfl, lcdIP, v2IP, fileIP2⟩, ⟨_, _, _, lccIP⟩, ⟨_, csIP⟩, mrIP, topIP, suIP, sIV, opIP, ⟨⟨_, _, _, _, _, _, _, _, _, _, _, _, _, _, _, clIP, vmIP⟩, saIP, bIR, tIR, kIR⟩⟩,
    z_super := PySem.W.mg_none_of X G zsIP,
    iIP := inIP,
    tfIP := tfnIP,
    bIP := Binds.all fun us hl => match us, hl with | [_, _, _], _ => rfl,
    nrIP := nrIP,
    ncIP := ncIP,
    xfIP := ⟨eHg, eHk, bIR, eHd⟩,
    clIPs := by rw [csIP]; rfl }
  exact ⟨_, fun s v => .of_eq rfl, fun base _ _ => ok_law T⟩
end My
open PySem PySem.W PyProof.Rows
set_option maxHeartbeats 0 in
theorem PySem.Challenge.cw_longlife_k05_pictures_and_their_faults_holds : PySem.Challenge.rw_longlife_k05_pictures_and_their_faults.Holds := by
  w_on; o_law; k_head; (case hw => w_witness2)
  k_fill
  refine L2.walk_of (l := PySem.Challenge.rw_longlife_k05_pictures_and_their_faults) (n := 63) (k := 5) (x := "script") (CX := fun _ => L2.CX0) (sp := fun w => My.sp_law _) rfl (by decide) rfl ⟨rfl, by decide, by decide⟩ (fun w h Y => PySem.W.kIn_of Y) ?F (fun _ _ a ns hl _ hS => ⟨a, ns, rfl, hS, hl, fun _ => rfl⟩) (fun _ _ _ _ _ h => h)
  case F =>
    intro w mg fa h KX G hmg
    refine' My.all_mk KX G hmg ?apattern ?lpattern ?cpattern ?kpattern ?amoved ?lmoved ?cmoved ?kmoved ?ahome ?lhome ?chome ?khome ?aread_picture ?lread_picture ?cread_picture ?kread_picture ?acheck_string ?lcheck_string ?ccheck_string ?kcheck_string ?apicture ?lpicture ?cpicture ?kpicture ?alaw_cell ?llaw_cell ?claw_cell ?klaw_cell ?alaw_row ?llaw_row ?claw_row ?klaw_row ?alaw_integer ?llaw_integer ?claw_integer ?klaw_integer ?alaw_cells ?llaw_cells ?claw_cells ?klaw_cells ?alaw_some ?llaw_some ?claw_some ?klaw_some ?alaw_due ?llaw_due ?claw_due ?klaw_due ?alaw ?llaw ?claw ?klaw ?zsorted ?zset ?zmin ?zenumerate ?zlen ?zmax ?zrange ?zint ?zabs ?zisinstance ?zbool ?zlist ?ztuple ?zValueError ?xALIVE ?xDEAD ?aIR ?aLE ?aIT ?aIP ?sII ?sIT ?sIP ?sIL ?sIV ?oInvalidRule ?yInvalidRule ?oInvalidText ?yInvalidText ?oInvalidPicture ?yInvalidPicture ?bLE ?dLE ?tLE ?eHg ?eHk ?eHd ?eHa ?eHn ?eHt ?eHm ?kIR ?bIR ?tIR ?clIP ?vmIP ?saIP ?inIP ?lfIP ?coIP ?lcdIP ?v2IP ?fileIP2 ?lccIP ?csIP ?mrIP ?topIP ?suIP ?opIP ?zsIP ?tfnIP ?nrIP ?ncIP
    (case apattern => k_is)
    (case lpattern => k_is)
    (case cpattern => k_is)
    (case kpattern => k_is)
    (case amoved => k_is)
    (case lmoved => k_is)
    (case cmoved => k_is)
    (case kmoved => k_is)
    (case ahome => k_is)
    (case lhome => k_is)
    (case chome => k_is)
    (case khome => k_is)
    (case aread_picture => k_is)
    (case lread_picture => k_is)
    (case cread_picture => k_is)
    (case kread_picture => k_is)
    (case acheck_string => k_is)
    (case lcheck_string => k_is)
    (case ccheck_string => k_is)
    (case kcheck_string => k_is)
    (case apicture => k_is)
    (case lpicture => k_is)
    (case cpicture => k_is)
    (case kpicture => k_is)
    (case alaw_cell => k_is)
    (case llaw_cell => k_is)
    (case claw_cell => k_is)
    (case klaw_cell => k_is)
    (case alaw_row => k_is)
    (case llaw_row => k_is)
    (case claw_row => k_is)
    (case klaw_row => k_is)
    (case alaw_integer => k_is)
    (case llaw_integer => k_is)
    (case claw_integer => k_is)
    (case klaw_integer => k_is)
    (case alaw_cells => k_is)
    (case llaw_cells => k_is)
    (case claw_cells => k_is)
    (case klaw_cells => k_is)
    (case alaw_some => k_is)
    (case llaw_some => k_is)
    (case claw_some => k_is)
    (case klaw_some => k_is)
    (case alaw_due => k_is)
    (case llaw_due => k_is)
    (case claw_due => k_is)
    (case klaw_due => k_is)
    (case alaw => k_is)
    (case llaw => k_is)
    (case claw => k_is)
    (case klaw => k_is)
    (case zsorted => k_is)
    (case zset => k_is)
    (case zmin => k_is)
    (case zenumerate => k_is)
    (case zlen => k_is)
    (case zmax => k_is)
    (case zrange => k_is)
    (case zint => k_is)
    (case zabs => k_is)
    (case zisinstance => k_is)
    (case zbool => k_is)
    (case zlist => k_is)
    (case ztuple => k_is)
    (case zValueError => k_is)
    (case xALIVE => k_is)
    (case xDEAD => k_is)
    (case aIR => k_is)
    (case aLE => k_is)
    (case aIT => k_is)
    (case aIP => k_is)
    (case sII => k_is)
    (case sIT => k_is)
    (case sIP => k_is)
    (case sIL => k_is)
    (case sIV => k_is)
    (case oInvalidRule => k_is)
    (case yInvalidRule => k_is)
    (case oInvalidText => k_is)
    (case yInvalidText => k_is)
    (case oInvalidPicture => k_is)
    (case yInvalidPicture => k_is)
    (case bLE => k_is)
    (case dLE => k_is)
    (case tLE => k_is)
    (case eHg => k_is)
    (case eHk => k_is)
    (case eHd => k_is)
    (case eHa => k_is)
    (case eHn => k_is)
    (case eHt => k_is)
    (case eHm => k_is)
    (case kIR => k_is)
    (case bIR => k_is)
    (case tIR => k_is)
    (case clIP => k_is)
    (case vmIP => decide +kernel)
    (case saIP => k_is)
    (case inIP => k_is)
    (case lfIP => k_is)
    (case coIP => k_is)
    (case lcdIP => k_is)
    (case v2IP => exact rfl)
    (case fileIP2 => decide +kernel)
    (case lccIP => k_is)
    (case csIP => k_is)
    (case mrIP => k_is)
    (case topIP => decide +kernel)
    (case suIP => ks_is)
    (case opIP => k_is)
    (case zsIP => k_is)
    (case tfnIP => k_is)
    (case nrIP => k_is)
    (case ncIP => k_is)
